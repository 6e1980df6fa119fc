import PyProof.Rows.All
import Wide.All
import OpenK.AllK
import Wide.FinOn
import PyProof.EqAt
import PyProof.EqKinds
import PyProof.TupleCall
import PyProof.DictCompW
import PyProof.Rows.SortWalk
import OpenK.KRaise
import PyProof.ExcClass2
import KE.KTryMore
import KE.KSortTup
import KE.KIsAll
import PyProof.ListRange
import PyProof.StrBlock2
import PyProof.Rows.SetFrom
import PyProof.SetRoads
import PyProof.ReprRoads
import PyProof.CallStr
import PyProof.Rows.SortStr
import KE.KSortKey
import KE.KMinKey
import PyProof.Rows.Range3
import PyProof.Rows.IntBool
import KE.KRevIter
import PyProof.MeetsSeq
import PyProof.MinMaxWalk
import PyProof.SliceStr2
import PyProof.P3Eq
import PyProof.Rows.StrLen
import PyProof.Rows.StrCase
import PyProof.InstStoreFacts
import PyProof.ExcInit
import PyProof.StrCalls
import PyProof.DictIter
import PyProof.DictWalks
import PyProof.AutoIntG2
import KE.KDictList
import PyProof.DictItems
import PyProof.RulesTry
import PyProof.EnumMake
import PyProof.Draws
import PyProof.FactsAll.set_1
import PyProof.IsiH_list
import KE.KDictOf
import PyProof.RulesRaise
import KE.KIntText
import PyProof.StrCalls2
import PyProof.StrLawsChain
import PyProof.Rows.SeqMore
import PyProof.TupleOps
import PyProof.IsiH_tuple
import PyProof.TupleIter
import PyProof.StrLawsRepr
import PyProof.Rows.StrJoinMade
import Lean
import PySem.Challenge.RW_oddlong_k29_forms_made_and_refused
local macro_rules | `(tactic| omega) => `(tactic| lia)
set_option Elab.async false
set_option linter.all false
set_option maxRecDepth 100000
open PySem.W renaming Frag → Ja, nsIn → Jh, mg_of → Jj, mg_none_of → Ud, kitOne → Uh, findIn → Ut, kia_one → Yd, keepIn → Ye, emptyDict → Yp, instObj → Y2, fnOf → Y7
open PySem.Heap renaming get?_push_of_some → Jb, lt_size → Jf, get?_push_size → Ji, get?_update_self → Jz, size_push → J2, get?_update_other → Ua, SameBut → U0
open List renaming getElem?_eq_getElem → Jc, length_map → Je, getElem?_map → Jl, mem_cons → Jm, mem_cons_of_mem → Jo, getElem?_eq_some_iff → Jp, length_append → Jq, size_toArray → Jr, mem_cons_self → Js, mem_of_getElem? → Ju, replicate → Jv, getElem_mem → Jx, mem_append_right → Jy, length_cons → J0, not_mem_nil → J7, map_cons → Ub, mem_singleton → Uc, map_append → Ue, take_succ_eq_append_getElem → Ul, length_take → Um, lookup_cons → Uo, pairwise_iff_getElem → Uq, mem_map → Ur, mem_append → Us, getD_eq_getElem?_getD → Uu, getElem?_append_right → Ux, getElem?_append_left → Uy, length_replicate → U4, mem_iff_getElem? → U5, length_reverse → U7, length_set → U8, getElem?_set_ne → Yc, append_nil → Yg, forIn_cons → Yh, length_zip → Yi, getElem?_set_self → Yj, all_eq_true → Yk, take_of_length_le → Ym, getElem?_zip_eq_some → Yn, filterMap_cons → Yo, nodup_cons → Yq, length_drop → Yr, eraseIdx_eq_take_drop_succ → Yt, map_map → Yu, mem_append_left → Yv, pairwise_append → Yw, forIn_nil → Yx, mem_iff_getElem → Yy, eq_nil_of_length_eq_zero → Yz, getElem?_replicate → Y0, replicate_succ → Y5, map_congr_left → Y6, lookup → Y8, take_length → Wa, range → Wb, any_cons → Wc, getElem_map → Wd
open Nat renaming le_refl → Jd, le_trans → Jg, ne_of_lt → Jk, lt_of_lt_of_le → Jn, lt_of_le_of_lt → J3, le_add_right → Ug, lt_irrefl → Uj, ne_of_gt → Uk, zero_le → Uw, le_of_lt → Uz, le_succ → U1, not_lt_zero → Y4, succ_le_succ → Y9
open Bool renaming false_ne_true → Jt, and_eq_true → Jw, eq_false_iff → Uv, false_eq_true → U2, true_and → U3, false_and → U9, eq_iff_iff → Y3
open Array renaming getElem?_eq_getElem → Ui, length_toList → U6, getElem?_eq_some_iff → Yb, getElem?_eq_none → Yl, all_eq_true_iff_forall_mem → Ys
open Int renaming toNat_natCast → Y1
namespace L2
set_option genSizeOf false
set_option genInjectivity false
inductive fE {α0 α1:Type}(P: α0 -> α1->Prop):Prop|mk (x0: α0) (x1: α1) (h:P x0 x1):fE P
inductive mI {α0 α1 α2:Type}(P: α0 -> α1 -> α2->Prop):Prop|mk (x0: α0) (x1: α1) (x2: α2) (h:P x0 x1 x2):mI P
inductive rX {α0 α1 α2 α3:Type}(P: α0 -> α1 -> α2 -> α3->Prop):Prop|mk (x0: α0) (x1: α1) (x2: α2) (x3: α3) (h:P x0 x1 x2 x3):rX P
inductive uR {α0 α1 α2 α3 α4:Type}(P: α0 -> α1 -> α2 -> α3 -> α4->Prop):Prop|mk (x0: α0) (x1: α1) (x2: α2) (x3: α3) (x4: α4) (h:P x0 x1 x2 x3 x4):uR P
inductive wL {α0 α1 α2 α3 α4 α5:Type}(P: α0 -> α1 -> α2 -> α3 -> α4 -> α5->Prop):Prop|mk (x0: α0) (x1: α1) (x2: α2) (x3: α3) (x4: α4) (x5: α5) (h:P x0 x1 x2 x3 x4 x5):wL P
set_option genSizeOf true
set_option genInjectivity true
class aj (P:Prop) (F:outParam (Prop->Prop)):Prop where
 el:P->∀G:Prop,F G->G
theorem aj.go {P:Prop}{F:Prop->Prop}[i:aj P F]{G:Prop}(k:F G):P->G:=fun h=>i.el h G k
instance (priority:=low) elimBase {P:Prop}:aj P (fun G=>P->G):=⟨fun h _ k=>k h⟩
instance N7 {α:Sort u} {P: α->Prop} {F: α->Prop->Prop} [h:∀x,aj (P x) (F x)]:aj (∃x,P x) (fun G=>∀x,F x G):=⟨fun⟨x,hx⟩ G k=>(h x).el hx G (k x)⟩
instance MK {A B:Prop} {F:Prop->Prop} [h:aj B F]:aj (A/\B) (fun G=>A->F G):=⟨fun⟨a,b⟩ G k=>h.el b G (k a)⟩
instance NB {α0 α1:Type} {P: α0 -> α1->Prop} {F: α0 -> α1->Prop->Prop} [i:∀x0 x1,aj (P x0 x1) (F x0 x1)]:aj (fE P) (fun G=>∀x0 x1,F x0 x1 G):=⟨fun⟨x0,x1,h⟩ G k=>(i x0 x1).el h G (k x0 x1)⟩
instance MU {α0 α1 α2:Type} {P: α0 -> α1 -> α2->Prop} {F: α0 -> α1 -> α2->Prop->Prop} [i:∀x0 x1 x2,aj (P x0 x1 x2) (F x0 x1 x2)]:aj (mI P) (fun G=>∀x0 x1 x2,F x0 x1 x2 G):=⟨fun⟨x0,x1,x2,h⟩ G k=>(i x0 x1 x2).el h G (k x0 x1 x2)⟩
instance MX {α0 α1 α2 α3:Type} {P: α0 -> α1 -> α2 -> α3->Prop} {F: α0 -> α1 -> α2 -> α3->Prop->Prop} [i:∀x0 x1 x2 x3,aj (P x0 x1 x2 x3) (F x0 x1 x2 x3)]:aj (rX P) (fun G=>∀x0 x1 x2 x3,F x0 x1 x2 x3 G):=⟨fun⟨x0,x1,x2,x3,h⟩ G k=>(i x0 x1 x2 x3).el h G (k x0 x1 x2 x3)⟩
instance Np {α0 α1 α2 α3 α4:Type} {P: α0 -> α1 -> α2 -> α3 -> α4->Prop} {F: α0 -> α1 -> α2 -> α3 -> α4->Prop->Prop} [i:∀x0 x1 x2 x3 x4,aj (P x0 x1 x2 x3 x4) (F x0 x1 x2 x3 x4)]:aj (uR P) (fun G=>∀x0 x1 x2 x3 x4,F x0 x1 x2 x3 x4 G):=⟨fun⟨x0,x1,x2,x3,x4,h⟩ G k=>(i x0 x1 x2 x3 x4).el h G (k x0 x1 x2 x3 x4)⟩
instance M6 {α0 α1 α2 α3 α4 α5:Type} {P: α0 -> α1 -> α2 -> α3 -> α4 -> α5->Prop} {F: α0 -> α1 -> α2 -> α3 -> α4 -> α5->Prop->Prop} [i:∀x0 x1 x2 x3 x4 x5,aj (P x0 x1 x2 x3 x4 x5) (F x0 x1 x2 x3 x4 x5)]:aj (wL P) (fun G=>∀x0 x1 x2 x3 x4 x5,F x0 x1 x2 x3 x4 x5 G):=⟨fun⟨x0,x1,x2,x3,x4,x5,h⟩ G k=>(i x0 x1 x2 x3 x4 x5).el h G (k x0 x1 x2 x3 x4 x5)⟩
open PySem PySem.Spec PyProof.Rows
noncomputable abbrev Key:=Sum Int Str
noncomputable def nZ:Key->Value->Bool
 | .inl k,v=>Value.isInt k v
 | .inr x,v=>Value.isStrOf x v
noncomputable def NP (w:World):Key->Int
 | .inl k=>hashInt k
 | .inr x=>hashStr w x
theorem ck:∀{k:Key} {v:Value},nZ k v=true->(∃i t,k=Sum.inl i/\v=Value.int i t)∨(∃x t,k=Sum.inr x/\v=Value.str x t)
 | .inl i,v,h=>by
  obtain⟨t,e⟩:=Value.isInt_shape (k:=i) (v:=v) h
  exact .inl ⟨i,t,rfl,e⟩
 | .inr x,v,h=>by
  obtain⟨t,e⟩:=Value.isStrOf_shape (x:=x) (v:=v) h
  exact .inr ⟨x,t,rfl,e⟩
theorem yS (i:Int)(t:Tok):nZ (.inl i) (.int i t)=true:=by simp[nZ,Value.isInt]
theorem yI (x:Str)(t:Tok):nZ (.inr x) (.str x t)=true:=by simp[nZ,Value.isStrOf]
theorem Ii (a b:Int):decide ((Sum.inl a:Key)=Sum.inl b)=(a==b):=by
 by_cases e:a=b
 ·subst e;simp
 ·have h:¬(Sum.inl a:Key)=Sum.inl b:=fun q=>e (Sum.inl.inj q)
  rw[decide_eq_false h]
  exact(beq_eq_false_iff_ne.mpr e).symm
theorem Ia (a b:Str):decide ((Sum.inr a:Key)=Sum.inr b)=decide (a=b):=by
 by_cases e:a=b
 ·subst e;simp
 ·have h:¬(Sum.inr a:Key)=Sum.inr b:=fun q=>e (Sum.inr.inj q)
  rw[decide_eq_false h,decide_eq_false e]
theorem Ho (a:Int)(b:Str):decide ((Sum.inl a:Key)=Sum.inr b)=false:=decide_eq_false (fun q=>nomatch q)
theorem GQ (a:Str)(b:Int):decide ((Sum.inr a:Key)=Sum.inl b)=false:=decide_eq_false (fun q=>nomatch q)
noncomputable def bA (prog:Program)(w:World):PySem.KeyKind prog w Key where
 is:=nZ
 hash:=NP w
 inj:=fun v a b ha hb=>by
  rcases ck ha with ⟨i,t,rfl,rfl⟩|⟨x,t,rfl,rfl⟩
  ·rcases ck hb with ⟨j,u,rfl,e⟩|⟨y,u,rfl,e⟩
   ·injection e with e1 _;rw[e1]
   ·exact nomatch e
  ·rcases ck hb with ⟨j,u,rfl,e⟩|⟨y,u,rfl,e⟩
   ·exact nomatch e
   ·injection e with e1 _;rw[e1]
 byValue:=fun k v h=>by
  rcases ck h with ⟨i,t,rfl,rfl⟩|⟨x,t,rfl,rfl⟩<;>rfl
 pyHash:=fun hv h=>by
  rcases ck hv with ⟨i,t,rfl,rfl⟩|⟨x,t,rfl,rfl⟩
  ·exact wpAny_pyHash_int h
  ·exact wpAny_pyHash_str h
 eqBool:=fun hu hv h=>by
  rcases ck hu with ⟨i,t,rfl,rfl⟩|⟨x,t,rfl,rfl⟩
  ·rcases ck hv with ⟨j,u,rfl,rfl⟩|⟨y,u,rfl,rfl⟩
   ·rw[Ii] at h;exact wpAny_eqBool_int h
   ·rw[Ho] at h;exact SeqAt.EqAt.int_str i t y u _ _ _ _ h
  ·rcases ck hv with ⟨j,u,rfl,rfl⟩|⟨y,u,rfl,rfl⟩
   ·rw[GQ] at h;exact SeqAt.EqAt.str_int x t j u _ _ _ _ h
   ·rw[Ia] at h;exact wpAny_eqBool_str h
 «strs»:=fun k x t v h=>by
  rcases ck h with ⟨i,u,rfl,e⟩|⟨y,u,rfl,e⟩
  ·exact nomatch e
  ·injection e with e1 _
   subst e1
   cases v<;>rfl
theorem wg (prog:Program)(w:World)(k:Key)(v:Value):(bA prog w).is k v=nZ k v:=rfl
theorem sU (prog:Program)(w:World)(i:Int)(t:Tok):(bA prog w).is (.inl i) (.int i t)=true:=yS i t
theorem sZ (prog:Program)(w:World)(x:Str)(t:Tok):(bA prog w).is (.inr x) (.str x t)=true:=yI x t
inductive V where
 | non|bl (b:Bool)|int (i:Int)|str (x:Str)|byt (b:Array UInt8)|flt (b:UInt64)|ref (a:Addr)|ty (n:String)
 deriving DecidableEq
def RelV:V->Value->Prop
 | .non,u=>u=Value.none
 | .bl b,u=>u=Value.bool b
 | .int i,u=>∃t,u=Value.int i t
 | .str x,u=>∃t,u=Value.str x t
 | .byt b,u=>∃t,u=Value.bytes b t
 | .flt b,u=>∃t,u=Value.float b t
 | .ref a,u=>u=Value.ref a
 | .ty n,u=>u=Value.type n
abbrev Vals:List V->List Value->Prop:=Paired RelV
theorem Vals.length {xs:List V}{us:List Value}(r:Vals xs us):xs.length=us.length:=Paired.length r
theorem Vals.get:∀{xs:List V} {us:List Value} {i:Nat} {x:V},Vals xs us->xs[i]? = some x->∃u,us[i]? = some u/\RelV x u
 | _,_,_,_,.nil,e=>by simp at e
 | _,_,0,_,.cons r _,e=>by simp at e;subst e;exact⟨_,rfl,r⟩
 | _,_,i+1,x,.cons _ t,e=>by
  obtain⟨u,h1,h2⟩:=Vals.get (i:=i) (x:=x) t (by simpa using e)
  exact⟨u,by simpa using h1,h2⟩
theorem Vals.set {x:V}{u:Value}(r:RelV x u):∀{xs:List V} {us:List Value} (i:Nat),Vals xs us->Vals (xs.set i x) (us.set i u)
 | _,_,_,.nil =>.nil
 | _,_,0,.cons _ t =>.cons r t
 | _,_,i+1,.cons q t =>.cons q (Vals.set r i t)
theorem Vals.append {xs ys:List V}{us ws:List Value}(h:Vals xs us)(s:Vals ys ws):Vals (xs++ys) (us++ws):=by
 induction h with
 | nil=>exact s
 | cons r t ih=>exact .cons r ih
theorem Vals.take:∀{xs:List V} {us:List Value} (n:Nat),Vals xs us->Vals (xs.take n) (us.take n)
 | _,_,0,_ =>.nil
 | _,_,_+1,.nil =>.nil
 | _,_,n+1,.cons r t =>.cons r (Vals.take n t)
theorem Vals.drop:∀{xs:List V} {us:List Value} (n:Nat),Vals xs us->Vals (xs.drop n) (us.drop n)
 | _,_,0,r=>r
 | _,_,_+1,.nil =>.nil
 | _,_,n+1,.cons _ t=>Vals.drop n t
def kC:Option V->Option Value->Prop
 | some v,some u=>RelV v u
 | none,none=>True
 | _,_=>False
def KV {κ:Type}:List (κ×V)->List (κ×Value)->Prop:=Paired fun(p: κ×V) (q: κ×Value)=>p.1=q.1/\RelV p.2 q.2
noncomputable def kV:Key->V
 | .inl i =>.int i
 | .inr x =>.str x
inductive HO where
 | lst (xs:List V)
 | tup (xs:List V)
 | dK (kvs:List (Key×V))|dT (kvs:List (List Key×V))
 | set (S:Int->Bool) (n:Nat)
 | ins (C dx:Addr) (fs:List (Str×V))
 | own (x:Addr)
 | xd (fs:List (Str×V))
 | met (f x:Addr)
 | rng (lo hi:Int)
 | frz (o:Obj) (u:HO)
 | tbl (ps:Array Value)
 | ext (φ:Heap->Prop)
noncomputable abbrev Hp:=Addr->Option HO
noncomputable def upd (H:Hp)(a:Addr)(o:HO):Hp:=fun b=>if b=a then some o else H b
theorem aq {H:Hp}{a:Addr}{o:HO}:upd H a o a=some o:=by unfold upd;rw[if_pos rfl]
theorem ao {H:Hp}{a b:Addr}{o:HO}(h:b≠a):upd H a o b=H b:=by unfold upd;rw[if_neg h]
theorem Fp {H:Hp}{a b:Addr}{o u:HO}(h:H a=some o)(h':H b=some u)(d:o≠u):a≠b:=by
 intro e;subst e;rw[h] at h';exact d (Option.some.inj h')
theorem aF {H:Hp}{a b:Addr}{o:HO}(h:H a=some o)(h':H b=none):a≠b:=by
 intro e;subst e;rw[h] at h';cases h'
def ux (h:Heap)(a:Addr)(items:Array Value):Prop:=∃o,h.get? a=some o/\o.dict=none/\o.cls = .type "tuple" /\ ∃n,o.data = .seq items n
theorem ux.is {h:Heap}{a:Addr}{items:Array Value}:ux h a items->IsTup h a items:=fun⟨o,e,_,r⟩=>⟨o,e,r⟩
theorem ux.new (h:Heap)(items:Array Value):ux (h.push { cls := .type "tuple",data := .seq items }) h.objs.size items:=⟨_,Ji _ rfl,rfl,rfl,_,rfl⟩
section
variable (P:Program)(w:World)
def bt (H:Hp)(h:Heap)(a:Addr):HO->Prop
 | .lst xs=>xs.length<=sizeLine/\fE fun(aA:List Value) (n:Nat)=>Vals xs aA/\h.get? a=some { cls := .type "list",data := .seq aA.toArray n }
 | .tup xs=>xs.length<=sizeLine/\∃aA:List Value,Vals xs aA/\ux h a aA.toArray
 | .dK kvs=>kvs.length<=sizeLine/\(a==sysModules)=false/\∃vs,KV kvs vs/\h.DictOf (bA P w) a vs
 | .dT kvs=>kvs.length<=sizeLine/\(a==sysModules)=false/\∃xs:List (List Key×Addr×Value),
   Paired (fun(p:List Key×V) (q:List Key×Addr×Value)=>p.1=q.1/\H q.2.1=some (.tup (p.1.map kV))/\RelV p.2 q.2.2) kvs xs /\
   mI fun o es ep=>h.get? a=some o/\o.ExactDict/\o.data = .dict es ep/\es.toList=xs.map (entryOfKey (tupleKind (bA P w)))/\(xs.map (·.1)).Nodup
 | .set S n=>h.SetOf (intKind P w) a S n
 | .ins C dx fs=>H dx=some (.own a)/\fs.length<=1000/\dx≠a/\h.get? a=some (Y2 C dx) /\
   ∃mA,h.Ns1 dx mA/\(∀f,kC (fs.lookup f) (mA f))/\PySem.Within mA (fs.map (·.1))
 | .own _=>∃o,h.get? a=some o
 | .xd fs=>∃mA,h.Ns1 a mA/\∀f,kC (fs.lookup f) (mA f)
 | .rng lo hi=>mI fun t u v=>h.get? a=some { cls := .type "range",data := .fields #[.int lo t,.int hi u,.int 1 v] }
 | .frz o u=>h.get? a=some o/\bt H h a u
 | .tbl ps=>h.get? a=some { cls := .none,data := .fields ps }
 | .met f x=>h.get? a=some (PySem.W.methodObj (.ref f) (.ref x))
 | .ext φ => φ h/\(∃o,h.get? a=some o)/\∀h1 h2:Heap, φ h1->(∀o,h1.get? a=some o->h2.get? a=some o) -> φ h2
def hZ (H:Hp)(h:Heap):Prop:=∀a o,H a=some o->bt P w H h a o
end
section
variable {P:Program}{w:World}{H H':Hp}{h h':Heap}{a:Addr}{o:HO}
theorem bt.lt (x:bt P w H h a o):a<h.objs.size:=by
 cases o with
 | lst xs=>obtain⟨_,_,_,_,e⟩:=x;exact Jf e
 | tup xs=>obtain⟨_,_,_,p⟩:=x;exact p.is.lt
 | dK kvs=>obtain⟨_,_,_,_,o,_,_,e,_⟩:=x;exact Jf e
 | dT kvs=>obtain⟨_,_,_,_,o,_,_,e,_⟩:=x;exact Jf e
 | set S n=>obtain⟨o,_,_,_,e,_⟩:=x;exact Jf e
 | ins C dx fs=>obtain⟨_,_,_,e,_⟩:=x;exact Jf e
 | own y=>obtain⟨_,e⟩:=x;exact Jf e
 | xd fs=>obtain⟨_,⟨_,_,_,e,_⟩,_⟩:=x;exact Jf e
 | rng lo hi=>obtain⟨_,_,_,e⟩:=x;exact Jf e
 | frz ob u=>obtain⟨e,_⟩:=x;exact Jf e
 | tbl ps=>exact Jf (show h.get? a=some _ from x)
 | met f y=>exact Jf (show h.get? a=some _ from x)
 | ext φ=>obtain⟨_,⟨_,e⟩,_⟩:=x;exact Jf e
theorem Paired.Mn {α β:Type}{F G: α -> β->Prop}{l₁:List α}{l₂:List β}(h:Paired F l₁ l₂)(f:∀a b,F a b->G a b):Paired G l₁ l₂:=by
 induction h with
 | nil=>exact .nil
 | cons r t ih=>exact .cons (f _ _ r) ih
theorem bt.gc (x:bt P w H h a o)(k:∀b u,(b=a∨H b=some (.own a))->h.get? b=some u->h'.get? b=some u)
  (ho:∀b,H b=some (.own a)->H' b=some (.own a)) (ht:∀b xs,H b=some (.tup xs)->H' b=some (.tup xs)):bt P w H' h' a o:=by
 induction o with
 | lst xs=>obtain⟨z,aA,n,r,e⟩:=x;exact⟨z,aA,n,r,k _ _ (.inl rfl) e⟩
 | tup xs=>obtain⟨z,aA,r,ob,e,c⟩:=x;exact⟨z,aA,r,ob,k _ _ (.inl rfl) e,c⟩
 | dK kvs=>obtain⟨z,y,vs,r,ob,es,ep,e,c⟩:=x;exact⟨z,y,vs,r,ob,es,ep,k _ _ (.inl rfl) e,c⟩
 | dT kvs=>
  obtain⟨z,y,xs,r,ob,es,ep,e,c⟩:=x
  exact⟨z,y,xs,Paired.Mn r fun p q z=>⟨z.1,ht _ _ z.2.1,z.2.2⟩,ob,es,ep,k _ _ (.inl rfl) e,c⟩
 | set S n=>obtain⟨ob,es,ep,t,e,c⟩:=x;exact⟨ob,es,ep,t,k _ _ (.inl rfl) e,c⟩
 | ins C dx fs=>
  obtain⟨d,z,ne,e,mA,⟨od,es,ep,e2,c⟩,r⟩:=x
  exact⟨ho _ d,z,ne,k _ _ (.inl rfl) e,mA,⟨od,es,ep,k _ _ (.inr d) e2,c⟩,r⟩
 | own y=>obtain⟨ob,e⟩:=x;exact⟨ob,k _ _ (.inl rfl) e⟩
 | xd fs=>obtain⟨mA,⟨od,es,ep,e,c⟩,r⟩:=x;exact⟨mA,⟨od,es,ep,k _ _ (.inl rfl) e,c⟩,r⟩
 | rng lo hi=>obtain⟨t,u,v,e⟩:=x;exact⟨t,u,v,k _ _ (.inl rfl) e⟩
 | frz ob u ih=>obtain⟨e,q⟩:=x;exact⟨k _ _ (.inl rfl) e,ih q⟩
 | tbl ps=>
  have e:h.get? a=some { cls := .none,data := .fields ps }:=x
  show h'.get? a=some { cls := .none,data := .fields ps }
  exact k a _ (.inl rfl) e
 | met f y=>
  have e:h.get? a=some (PySem.W.methodObj (.ref f) (.ref y)):=x
  show h'.get? a=some (PySem.W.methodObj (.ref f) (.ref y))
  exact k a _ (.inl rfl) e
 | ext φ=>obtain⟨p,⟨o,e⟩,st⟩:=x;exact⟨st _ _ p fun o q=>k _ _ (.inl rfl) q,⟨o,k _ _ (.inl rfl) e⟩,st⟩
theorem hZ.lt (x:hZ P w H h)(e:H a=some o):a<h.objs.size:=(x a o e).lt
theorem hZ.fresh (x:hZ P w H h)(e:h.objs.size<=a):H a=none:=by
 cases q:H a with
 | none=>rfl
 | some u=>exact absurd (Jn (x.lt q) e) (Uj _)
theorem hZ.kept (x:hZ P w H h)(k:∀b u,h.get? b=some u->h'.get? b=some u):hZ P w H h':=fun a o e=>
 (x a o e).gc (fun b u _ q=>k b u q) (fun _ q=>q) fun _ _ q=>q
theorem hZ.laid (x:hZ P w H h)(k:∀b u,h.get? b=some u->h'.get? b=some u)(hp:h.objs.size<=a)(new:bt P w (upd H a o) h' a o):hZ P w (upd H a o) h':=fun b u e=>by
 have hn:=x.fresh hp
 by_cases hb:b=a
 ·subst hb;rw[aq] at e;cases e;exact new
 ·rw[ao hb] at e
  exact(x b u e).gc (fun c v _ q=>k c v q) (fun c q=>by rw[ao (aF q hn)];exact q) fun c xs q=>by rw[ao (aF q hn)];exact q
end
def Rd (H:Hp)(a:Addr)(u:HO):Prop:=H a=some u∨∃o,H a=some (.frz o u)
theorem Rd.ok {P:Program}{w:World}{H:Hp}{h:Heap}{a:Addr}{u:HO}(r:Rd H a u)(x:hZ P w H h):bt P w H h a u:=by
 rcases r with r|⟨o,r⟩
 ·exact x a u r
 ·obtain⟨_,q⟩:=x a _ r
  exact q
def JK:Option HO->Prop
 | some (.lst _)=>True
 | some (.dK _)=>True
 | some (.dT _)=>True
 | some (.set _ _)=>True
 | some (.ins _ _ _)=>True
 | some (.ext _)=>True
 | _=>False
section
variable {P:Program}{w:World}{H:Hp}{h h':Heap}{x e:Addr}{o':HO}
theorem hZ.write (ok:hZ P w H h)(mu:JK (H x))(he:e=x∨H e=some (.own x))(k:∀b u,b≠e->h.get? b=some u->h'.get? b=some u)(IT:∃u,h'.get? e=some u)
  (new:bt P w (upd H x o') h' x o'):hZ P w (upd H x o') h':=fun b u q=>by
 have LI:∀c y,H c=some (.own y)->c≠x:=fun c y r z=>by subst z;rw[r] at mu;exact mu
 have OT:∀c xs,H c=some (.tup xs)->c≠x:=fun c xs r z=>by subst z;rw[r] at mu;exact mu
 by_cases hb:b=x
 ·subst hb;rw[aq] at q;cases q;exact new
 ·rw[ao hb] at q
  by_cases hbe:b=e
  ·have q':H b=some (.own x):=by
    rcases he with z|z
    ·exact absurd (hbe.trans z) hb
    ·rw[hbe];exact z
   rw[q] at q';cases q'
   obtain⟨v,hv⟩:=IT
   exact⟨v,by rw[hbe];exact hv⟩
  ·refine(ok b u q).gc (fun c v hc r=>k c v ?_ r) (fun c r=>by rw[ao (LI c b r)];exact r) fun c xs r=>by rw[ao (OT c xs r)];exact r
   rcases hc with rfl|hc
   ·exact hbe
   ·rintro rfl
    rcases he with z|z
    ·exact LI c b hc z
    ·rw[hc] at z;cases z;exact hb rfl
end
structure Un (fs ex:List Addr)(H H':Hp)(h h':Heap):Prop where
 keep:∀b o,h.get? b=some o->H b=none->b∉fs->b∉ex->h'.get? b=some o
 slot:∀b o,h.get? b=some o->H b=none->b∈fs->b∉ex->∃sl,h'.get? b=some { o with slots:=sl }
 free:∀b o,h.get? b=some o->H b=none->b∉ex->H' b=none
 there:∀b o,h.get? b=some o->b∉ex->∃o',h'.get? b=some o'
 iV:∀b xs,H b=some (.tup xs)->H' b=some (.tup xs)
 iu:∀b o u,H b=some (.frz o u)->H' b=some (.frz o u)
 jz:∀b ps,H b=some (.tbl ps)->∃more,H' b=some (.tbl (ps++more))
section
variable {fs UU ex Wh:List Addr}{H H1 H2:Hp}{h h1 h2 h':Heap}{a x e:Addr}{o:HO}
theorem Un.any (u:Un fs ex H H1 h h1){b:Addr}{ob:Obj}(q:h.get? b=some ob)(n:H b=none)(hx:b∉ex):∃sl,h1.get? b=some { ob with slots:=sl }:=by
 by_cases hb:b∈fs
 ·exact u.slot b ob q n hb hx
 ·exact⟨ob.slots,u.keep b ob q n hb hx⟩
theorem Un.kept (k:∀b u,h.get? b=some u->h'.get? b=some u):Un fs ex H H h h':=
 ⟨fun b ob q _ _ _=>k b ob q,fun b ob q _ _ _=>⟨ob.slots,k b ob q⟩,fun _ _ _ n _=>n,fun b ob q _=>⟨ob,k b ob q⟩,fun _ _ q=>q,fun _ _ _ q=>q,fun _ ps q=>⟨#[],by rw[q];simp⟩⟩
theorem Un.refl:Un fs ex H H h h:=Un.kept fun _ _ q=>q
theorem Un.laid (k:∀b u,h.get? b=some u->h'.get? b=some u)(hp:h.objs.size<=a)(hn:H a=none):Un fs ex H (upd H a o) h h' where
 keep:=fun b u q _ _ _=>k b u q
 slot:=fun b u q _ _ _=>⟨u.slots,k b u q⟩
 free:=fun b u q n _=>by rw[ao (Jk (Jn (Jf q) hp))];exact n
 there:=fun b u q _=>⟨u,k b u q⟩
 iV:=fun b xs q=>by rw[ao (aF q hn)];exact q
 iu:=fun b u xs q=>by rw[ao (aF q hn)];exact q
 jz:=fun b ps q=>⟨#[],by rw[ao (aF q hn),q];simp⟩
theorem Un.write (mu:JK (H x))(he:e=x∨H e=some (.own x))(k:∀b u,b≠e->h.get? b=some u->h'.get? b=some u)(IT:∃u,h'.get? e=some u):Un fs ex H (upd H x o) h h':=by
 have hx:∀b,H b=none->b≠x:=fun b n z=>by subst z;rw[n] at mu;exact mu
 have hb:∀b,H b=none->b≠e:=fun b n z=>by
  subst z
  rcases he with r|r
  ·exact hx b n r
  ·rw[n] at r;cases r
 have hm:∀b u,H b=some u->¬JK (some u)->b≠x:=fun b u q nm z=>by subst z;rw[q] at mu;exact nm mu
 refine⟨fun b u q n _ _=>k b u (hb b n) q,fun b u q n _ _=>⟨u.slots,k b u (hb b n) q⟩,fun b u q n _=>by rw[ao (hx b n)];exact n,fun b u q _ =>?_,
  fun b xs q=>by rw[ao (hm b _ q fun z=>z)];exact q,fun b u xs q=>by rw[ao (hm b _ q fun z=>z)];exact q,fun b ps q=>⟨#[],by rw[ao (hm b _ q fun z=>z),q];simp⟩⟩
 by_cases hbe:b=e
 ·subst hbe;exact IT
 ·exact⟨u,k b u hbe q⟩
end
noncomputable def Gg (h:Heap)(H:Hp):List Addr:=(Wb h.objs.size).filter fun a=>(H a).isSome
noncomputable def rR (h:Heap)(H:Hp):Heap:=PySem.W.hideAll h (Gg h H)
theorem zk (h:Heap)(H:Hp):(rR h H).objs.size=h.objs.size:=PySem.W.hideAll_size _ _
theorem AV {h:Heap}{H:Hp}{b:Addr}{o:Obj}(e:h.get? b=some o)(n:H b=none):(rR h H).get? b=some o:=
 PySem.W.hideAll_get _ e fun hm=>by
  have q:(H b).isSome=true:=(List.mem_filter.mp hm).2
  rw[n] at q;simp at q
theorem Ef {h:Heap}{H:Hp}{b:Addr}{o:Obj}(e:(rR h H).get? b=some o):h.get? b=some o/\H b=none:=by
 have e':h.get? b=some o:=PySem.W.of_hideAll (Gg h H) e
 refine⟨e',?_⟩
 cases q:H b with
 | none=>rfl
 | some x=>
  have hm:b∈Gg h H:=List.mem_filter.mpr ⟨List.mem_range.mpr (Jf e'),by simp[q]⟩
  have z:(rR h H).get? b=none:=PySem.W.hideAll_none (Gg h H) hm
  rw[z] at e;cases e
structure Mod (K:Ja)(mg:Str->Option Value)(base:Heap):Prop where
 wK:K.In base
 glob:base.Ns mainGlobals mg
 blt:∃mb,base.Ns builtinsNs mb/\∀x:Str,x ≠ "__name__" -> mb x=bootBuiltins x
 nolimit:base.NoLimit
structure Cx where
 prog:Program
 w:World
 K:Ja
 mg:Str->Option Value
 base:Heap
 A:Around
 N:List Str
 s₀:Shared
 H₀:Hp
 env:Env
 outer:List Env
 stack:List Env
 ex:List Addr
 fn:Str->Bool
 calm:Bool
 pn:List (Addr×Obj)
 xe:Value->Shared->Prop
noncomputable def fK (l:List Env):List Addr:=l.filterMap (·.frame)
noncomputable abbrev Cx.fs (X:Cx):List Addr:=fK X.outer
def Ks (sc:Scope)(x:Str):Prop:=sc.names.lookup x=some .local∨sc.names.lookup x=some .cell∨sc.names.lookup x=some .free
def Loc (sc:Scope)(x:Str):Prop:=sc.names.lookup x=some .local∨sc.names.lookup x=some .cell
def Look (env:Env)(h:Heap)(m:Str->Option Value)(x:Str)(u:Value):Prop:=
 (env.kindOf x=some .local/\m x=some u)∨((env.kindOf x=some .cell∨env.kindOf x=some .free)/\∃c,env.cells.lookup x=some c/\h.IsCell c (some u))
structure Cx.Ok (X:Cx):Prop where
 mod:Mod X.K X.mg X.base
 kind:X.env.scope.kind = .function
 glob:X.env.globals=mainGlobals
 blt:X.env.builtins=builtinsNs
 above:X.s₀.heap.objs.size<=X.env.locals
 inj:∀x y c,X.env.cells.lookup x=some c->X.env.cells.lookup y=some c->x=y
 has:∀x,(X.env.kindOf x=some .cell∨X.env.kindOf x=some .free)->∃c,X.env.cells.lookup x=some c
 cab:∀x c,X.fn x=true->X.env.cells.lookup x=some c->X.s₀.heap.objs.size<=c
 hd:X.calm=true->X.A.handled=none
 frames:X.A.frames=some X.stack
 stk:X.stack=X.outer∨(X.stack=X.env::X.outer/\X.env.frame=some X.env.locals)
 exf:∀b∈X.ex,b≠X.env.locals/\∀x c,X.env.cells.lookup x=some c->c≠b
 bs:∀b o,X.base.get? b=some o->X.s₀.heap.get? b=some o/\X.H₀ b=none
 bsz:X.base.objs.size<=X.s₀.heap.objs.size
 noex:∀b o,X.base.get? b=some o->b∉X.ex
 exfs:∀b∈X.ex,b∉X.fs
 jv:X.s₀.heap.FunFrames X.base X.outer
 frf:∀b∈X.fs,X.H₀ b=none
structure Inv (X:Cx)(pins:List (Addr×Obj))(σ:List (Option V))(H:Hp)(s:Shared):Prop where
 ok:X.Ok
 os:s.os=X.s₀.os
 bare:AllBare s.gens
 base:Un X.fs X.ex X.H₀ H X.s₀.heap s.heap
 loc:∃m,s.heap.Ns X.env.locals m/\∀(i:Nat) (x:Str) (v:V),X.N[i]? = some x -> σ[i]? = some (some v)->Ks X.env.scope x->∃u,RelV v u/\Look X.env s.heap m x u
 cell:∀x c,X.env.cells.lookup x=some c->∃v,s.heap.IsCell c v
 free:H X.env.locals=none
 freeC:∀x c,X.env.cells.lookup x=some c->H c=none
 pin:∀p∈X.pn++pins,s.heap.get? p.1=some p.2/\H p.1=none/\p.1≠X.env.locals/\p.1∉X.fs/\∀v,p.2.data ≠ .cell v
 bB:hZ X.prog X.w H s.heap
 len: σ.length=X.N.length
section
variable {X:Cx}{pins:List (Addr×Obj)}{σ:List (Option V)}{H H':Hp}{s:Shared}{h':Heap}
theorem Cx.Ok.Oi (ok:X.Ok){b:Addr}{o:Obj}(e:X.base.get? b=some o):b∉X.fs:=fun hb=>by
 have:=(ok.jv.mem hb).1
 rw[e] at this;cases this
theorem Inv.bs (I:Inv X pins σ H s):∀b o,X.base.get? b=some o->s.heap.get? b=some o/\H b=none:=fun b o e=>
 ⟨I.base.keep b o (I.ok.bs b o e).1 (I.ok.bs b o e).2 (I.ok.Oi e) (I.ok.noex b o e),I.base.free b o (I.ok.bs b o e).1 (I.ok.bs b o e).2 (I.ok.noex b o e)⟩
theorem Inv.bk (I:Inv X pins σ H s):∀b o,X.base.get? b=some o->s.heap.get? b=some o:=fun b o e=>(I.bs b o e).1
theorem Inv.mod (I:Inv X pins σ H s):Mod X.K X.mg X.base:=I.ok.mod
theorem Inv.iA (I:Inv X pins σ H s):X.K.In s.heap:=I.ok.mod.wK.keeps I.bk
theorem Inv.lt (I:Inv X pins σ H s):X.env.locals<s.heap.objs.size:=let ⟨_,hn,_⟩:=I.loc;hn.lt
theorem Inv.sz (I:Inv X pins σ H s):X.s₀.heap.objs.size<=s.heap.objs.size:=Jg I.ok.above (Uz I.lt)
theorem Inv.K4 (I:Inv X pins σ H s){a:Addr}(h:s.heap.objs.size<=a):a∉X.fs:=fun hb=>by
 obtain⟨_,o,ho,_⟩:=I.ok.jv.mem hb
 exact absurd (Jn (Jf ho) (Jg I.sz h)) (Uj _)
theorem Inv.Ff (I:Inv X pins σ H s):∀x c,X.env.cells.lookup x=some c->c≠X.env.locals:=fun x c e z=>by
 obtain⟨v,o,ho,hd⟩:=I.cell x c e
 obtain⟨m,⟨o',es,ep,xt,qR,_⟩,_⟩:=I.loc
 rw[z,xt] at ho;cases ho;rw[qR] at hd;cases hd
theorem Inv.jv (I:Inv X pins σ H s):s.heap.FunFrames X.base X.outer:=by
 have all:∀(l:List Env),(∀b∈fK l,b∈X.fs)->X.s₀.heap.FunFrames X.base l->s.heap.FunFrames X.base l:=by
  intro l
  induction l with
  | nil=>intro _ _;trivial
  | cons env r ih=>
   intro hs hl
   obtain⟨hk,⟨L,o,hf,hn,ho,hd⟩,hr⟩:=hl
   have hL:L∈X.fs:=hs L (by unfold fK;rw[Yo,hf];exact Js)
   obtain⟨sl,e⟩:=I.base.slot L o ho (I.ok.frf L hL) hL fun z=>I.ok.exfs L z hL
   exact⟨hk,⟨L,_,hf,hn,e,hd⟩,ih (fun b hb=>hs b (by unfold fK;rw[Yo,hf];exact Jo _ hb)) hr⟩
 exact all X.outer (fun _ hb=>hb) I.ok.jv
theorem Inv.stack (I:Inv X pins σ H s):s.heap.FunFrames X.base X.stack:=by
 rcases I.ok.stk with e|⟨e,hf⟩
 ·rw[e];exact I.jv
 ·rw[e]
  obtain⟨m,hn,_⟩:=I.loc
  refine .cons (by rw[I.ok.kind];decide) hf hn ?_ I.jv
  exact Heap.get?_none_of_le (Jg I.ok.bsz I.ok.above)
theorem Inv.qV (I:Inv X pins σ H s):∀b∈fK X.stack,b∈X.env.locals::X.fs:=fun b hb=>by
 rcases I.ok.stk with e|⟨e,hf⟩
 ·rw[e] at hb;exact Jo _ hb
 ·rw[e] at hb
  unfold fK at hb
  rw[Yo,hf] at hb
  exact hb
theorem Inv.rS (I:Inv X pins σ H s):∀b∈fK X.stack,H b=none:=fun b hb=>by
 rcases Jm.mp (I.qV b hb) with e|hb
 ·rw[e];exact I.free
 ·obtain⟨_,o,ho,_⟩:=I.ok.jv.mem hb
  exact I.base.free b o ho (I.ok.frf b hb) fun z=>I.ok.exfs b z hb
theorem Inv.step {g':Array GenState}{t':Nat}{d':Drawn}{ch:List Addr}(I:Inv X pins σ H s)
  (xX:∀b∈ch,(b∈X.ex∨X.s₀.heap.objs.size<=b)/\b≠X.env.locals/\(∀x c,X.env.cells.lookup x=some c->c≠b)/\∀p∈X.pn++pins,p.1≠b)
  (keep:∀b o,b≠X.env.locals->b∉X.fs->b∉ch->s.heap.get? b=some o->H b=none->h'.get? b=some o)
  (slot:∀b o,b≠X.env.locals->b∈X.fs->b∉ch->s.heap.get? b=some o->H b=none->∃sl,h'.get? b=some { o with slots:=sl }) (free:∀b o,b∉ch->s.heap.get? b=some o->H b=none->H' b=none)
  (there:∀b o,b∉ch->s.heap.get? b=some o->∃o',h'.get? b=some o')
  (iV:∀b xs,H b=some (.tup xs)->H' b=some (.tup xs)) (iu:∀b o u,H b=some (.frz o u)->H' b=some (.frz o u)) (jz:∀b ps,H b=some (.tbl ps)->∃more,H' b=some (.tbl (ps++more)))
  (ns:∀m,s.heap.Ns X.env.locals m->h'.Ns X.env.locals m) (bB:hZ X.prog X.w H' h') (hg:AllBare g') :
  Inv X pins σ H' { s with heap:=h',gens:=g',drawn:=d',toks:=t' }:=by
 have RV:∀b o,X.s₀.heap.get? b=some o->b≠X.env.locals:=fun b o e=>Jk (Jn (Jf e) I.ok.above)
 have Nz:∀b o,X.s₀.heap.get? b=some o->b∉X.ex->b∉ch:=fun b o e hx hb=>by
  rcases(xX b hb).1 with z|z
  ·exact hx z
  ·exact absurd (Jn (Jf e) z) (Uj _)
 have cellK:∀x c,X.env.cells.lookup x=some c->∀v,s.heap.IsCell c v->h'.IsCell c v:=fun x c e v ⟨o,ho,hd⟩=>by
  have Ft:c∉ch:=fun z=>(xX c z).2.2.1 x c e rfl
  by_cases hc:c∈X.fs
  ·obtain⟨sl,q⟩:=slot c o (I.Ff x c e) hc Ft ho (I.freeC x c e)
   exact⟨_,q,hd⟩
  ·exact⟨o,keep c o (I.Ff x c e) hc Ft ho (I.freeC x c e),hd⟩
 refine⟨I.ok,I.os,hg,⟨fun b o e n hb hx =>?_,fun b o e n hb hx =>?_,fun b o e n hx =>?_,fun b o e hx =>?_,fun b xs e=>iV b xs (I.base.iV b xs e),fun b o xs e=>iu b o xs (I.base.iu b o xs e),fun b ps e =>?_⟩,?_,fun x c e =>?_,?_,fun x c e =>?_,fun p hp =>?_,bB,I.len⟩
 ·exact keep b o (RV b o e) hb (Nz b o e hx) (I.base.keep b o e n hb hx) (I.base.free b o e n hx)
 ·obtain⟨sl,e1⟩:=I.base.slot b o e n hb hx
  obtain⟨sl',e2⟩:=slot b _ (RV b o e) hb (Nz b o e hx) e1 (I.base.free b o e n hx)
  exact⟨sl',e2⟩
 ·obtain⟨o',e1⟩:=I.base.there b o e hx
  exact free b o' (Nz b o e hx) e1 (I.base.free b o e n hx)
 ·obtain⟨o',e1⟩:=I.base.there b o e hx
  exact there b o' (Nz b o e hx) e1
 ·obtain⟨m1,e1⟩:=I.base.jz b ps e
  obtain⟨m2,e2⟩:=jz b _ e1
  exact⟨m1++m2,by rw[e2,Array.append_assoc]⟩
 ·obtain⟨m,hn,hl⟩:=I.loc
  refine⟨m,ns m hn,fun i x v e1 e2 e3 =>?_⟩
  obtain⟨u,r,l⟩:=hl i x v e1 e2 e3
  refine⟨u,r,?_⟩
  rcases l with l|⟨k,c,e,z⟩
  ·exact .inl l
  ·exact .inr ⟨k,c,e,cellK x c e _ z⟩
 ·obtain⟨v,z⟩:=I.cell x c e
  exact⟨v,cellK x c e v z⟩
 ·obtain⟨m,⟨o,_,_,ho,_⟩,_⟩:=I.loc
  exact free _ o (fun z=>(xX _ z).2.1 rfl) ho I.free
 ·obtain⟨v,o,ho,hd⟩:=I.cell x c e
  exact free c o (fun z=>(xX c z).2.2.1 x c e rfl) ho (I.freeC x c e)
 ·obtain⟨e,n,ne,nf,d⟩:=I.pin p hp
  have Ft:p.1∉ch:=fun z=>(xX p.1 z).2.2.2 p hp rfl
  exact⟨keep p.1 p.2 ne nf Ft e n,free p.1 p.2 Ft e n,ne,nf,d⟩
theorem Inv.un {t':Nat}(I:Inv X pins σ H s)(u:Un X.fs [] H H' s.heap h')(bB:hZ X.prog X.w H' h'):Inv X pins σ H' { s with heap:=h',toks:=t' }:=by
 obtain⟨m,⟨o,es,ep,ho,r⟩,_⟩:=id I.loc
 obtain⟨sl,hL⟩:=u.any ho I.free (by simp)
 exact I.step (g':=s.gens) (d':=s.drawn) (ch:=[]) (fun _ z=>nomatch z) (fun b o _ hb _ e n=>u.keep b o e n hb (by simp)) (fun b o _ hb _ e n=>u.slot b o e n hb (by simp)) (fun b o _ e n=>u.free b o e n (by simp)) (fun b o _ e=>u.there b o e (by simp)) u.iV u.iu u.jz (fun m' hm=>by
  obtain⟨o',es',ep',xt,r'⟩:=hm
  rw[ho] at xt;cases xt
  exact⟨_,es',ep',hL,r'⟩) bB I.bare
theorem Inv.call {g':Array GenState}{t':Nat}{d':Drawn}{ch:List Addr}(I:Inv X pins σ H s)(u:Un (fK X.stack) ch H H' s.heap h')(bB:hZ X.prog X.w H' h')(hg:AllBare g')
  (xX:∀b∈ch,(b∈X.ex∨X.s₀.heap.objs.size<=b)/\b≠X.env.locals/\(∀x c,X.env.cells.lookup x=some c->c≠b)/\∀p∈X.pn++pins,p.1≠b) :
  Inv X pins σ H' { s with heap:=h',gens:=g',drawn:=d',toks:=t' }:=by
 obtain⟨m,⟨o,es,ep,ho,r⟩,_⟩:=id I.loc
 obtain⟨sl,hL⟩:=u.any ho I.free fun z=>(xX _ z).2.1 rfl
 exact I.step (ch:=ch) xX (fun b o hL hb hc e n=>u.keep b o e n (fun z=>(Jm.mp (I.qV b z)).elim hL hb) hc) (fun b o _ _ hc e n=>u.any e n hc) (fun b o hc e n=>u.free b o e n hc) (fun b o hc e=>u.there b o e hc) u.iV u.iu u.jz (fun m' hm=>by
  obtain⟨o',es',ep',xt,r'⟩:=hm
  rw[ho] at xt;cases xt
  exact⟨_,es',ep',hL,r'⟩) bB hg
theorem Inv.turned {t':Nat}{it:Addr}(I:Inv X pins σ H s)(k:∀b o,b≠it->s.heap.get? b=some o->h'.get? b=some o)(hn:H it=none)(hL:it≠X.env.locals)
  (h1:it∈X.ex∨X.s₀.heap.objs.size<=it) (h2:∀x c,X.env.cells.lookup x=some c->c≠it) (h3:∀p∈X.pn++pins,p.1≠it):Inv X pins σ H { s with heap:=h',toks:=t' }:=by
 have Sa:∀b u,H b=some u->b≠it:=fun b u e z=>by rw[z,hn] at e;cases e
 refine I.step (g':=s.gens) (d':=s.drawn) (ch:=[it]) (fun b hb =>?_) (fun b o _ _ hc e _=>k b o (fun z=>hc (by simp[z])) e) (fun b o _ _ hc e _=>⟨o.slots,k b o (fun z=>hc (by simp[z])) e⟩) (fun _ _ _ _ n=>n)
  (fun b o hc e=>⟨o,k b o (fun z=>hc (by simp[z])) e⟩) (fun _ _ e=>e) (fun _ _ _ e=>e) (fun b ps e=>⟨#[],by rw[e];simp⟩) (fun m hm =>?_) (fun b u e =>?_) I.bare
 ·have e:b=it:=by simpa using hb
  subst e
  exact⟨h1,hL,h2,h3⟩
 ·obtain⟨o,es,ep,ho,r⟩:=hm
  exact⟨o,es,ep,k _ o (Ne.symm hL) ho,r⟩
 ·refine(I.bB b u e).gc (fun c v hc q=>k c v ?_ q) (fun _ q=>q) fun _ _ q=>q
  rcases hc with z|z
  ·rw[z];exact Sa b u e
  ·exact Sa c _ z
theorem Inv.tok (I:Inv X pins σ H s)(t:Nat):Inv X pins σ H { s with toks:=t }:=I.un (h':=s.heap) (t':=t) Un.refl I.bB
theorem Inv.kept {t':Nat}(I:Inv X pins σ H s)(k:∀b u,s.heap.get? b=some u->h'.get? b=some u):Inv X pins σ H { s with heap:=h',toks:=t' }:=I.un (Un.kept k) (I.bB.kept k)
theorem Inv.laid {a:Addr}{o:HO}{t':Nat}(I:Inv X pins σ H s)(k:∀b u,s.heap.get? b=some u->h'.get? b=some u)(hp:s.heap.objs.size<=a)(new:bt X.prog X.w (upd H a o) h' a o):
  Inv X pins σ (upd H a o) { s with heap:=h',toks:=t' }:=I.un (Un.laid k hp (I.bB.fresh hp)) (I.bB.laid k hp new)
theorem Inv.write {x e:Addr}{o:HO}{t':Nat}(I:Inv X pins σ H s)(mu:JK (H x))(he:e=x∨H e=some (.own x))(k:∀b u,b≠e->s.heap.get? b=some u->h'.get? b=some u)(IT:∃u,h'.get? e=some u)
  (new:bt X.prog X.w (upd H x o) h' x o):Inv X pins σ (upd H x o) { s with heap:=h',toks:=t' }:=I.un (Un.write mu he k IT) (I.bB.write mu he k IT new)
theorem Inv.weak {σ':List (Option V)}(I:Inv X pins σ H s)(hl: σ'.length = σ.length)(w:∀(i:Nat) v,σ'[i]? = some (some v) -> σ[i]? = some (some v)):Inv X pins σ' H s:=
 ⟨I.ok,I.os,I.bare,I.base,let ⟨m,hn,zN⟩:=I.loc; ⟨m,hn,fun i x v e1 e2 e3=>zN i x v e1 (w i v e2) e3⟩,I.cell,I.free,I.freeC,I.pin,I.bB,hl.trans I.len⟩
theorem Inv.mH {j6:List (Addr×Obj)}(I:Inv X pins σ H s)(h:∀p∈j6,s.heap.get? p.1=some p.2/\H p.1=none/\p.1≠X.env.locals/\p.1∉X.fs/\∀v,p.2.data ≠ .cell v):Inv X j6 σ H s:=
 ⟨I.ok,I.os,I.bare,I.base,I.loc,I.cell,I.free,I.freeC,fun p hp=>(Us.mp hp).elim (fun z=>I.pin p (Yv _ z)) (h p),I.bB,I.len⟩
theorem oH {N:List Str}(hN:N.Nodup){i j:Nat}{x:Str}(a:N[i]? = some x)(b:N[j]? = some x):i=j:=by
 obtain⟨h1,e1⟩:=Jp.mp a
 obtain⟨h2,e2⟩:=Jp.mp b
 exact(List.getElem_inj hN).mp (e1.trans e2.symm)
theorem pG {M:Model}{A:Around}{E:Value->Shared->Prop}{i:Nat}{x:Str}{v:V}{u:Value}{Q:Unit->Shared->Prop}(I:Inv X pins σ H s)(hN:X.N.Nodup)(hi:X.N[i]? = some x)(hx:Loc X.env.scope x)(r:RelV v u)
  (h:∀s',Inv X pins (σ.set i (some v)) H s'->(∃a,U0 a s.heap s'.heap/\(a=X.env.locals∨X.env.cells.lookup x=some a))->Q () s') (hf:X.fn x=true∨X.env.scope.names.lookup x=some .local:=by first|exact .inl rfl|exact .inr rfl|assumption):wpAny M A (storeName X.env x u) Q E s:=by
 obtain⟨m,hn,hl⟩:=id I.loc
 have Pb:(X.env.scope.kind == .class||(X.env.scope.kind == .module&&X.env.locals != X.env.globals))=false:=by rw[I.ok.kind];rfl
 have R1:i < σ.length:=by rw[I.len];exact(Jp.mp hi).1
 have Ff:=I.Ff
 have tracked:∀{a:Addr} {h':Heap},(∃o,s.heap.get? a=some o/\H a=none)->U0 a s.heap h'->hZ X.prog X.w H h':=fun{a h'} ha hs b ob e=>by
  obtain⟨_,_,wZ⟩:=ha
  refine(I.bB b ob e).gc (fun c w' hc q=>(hs.2 c ?_).trans q) (fun _ q=>q) fun _ _ q=>q
  rintro rfl
  rcases hc with rfl|hc
  ·rw[wZ] at e;cases e
  ·rw[wZ] at hc;cases hc
 rcases hx with hk|hk
 ·refine wpAny_storeName_local hk hn (fun h' hn' hs =>?_) Pb
  obtain⟨oL,_,_,hoL,_⟩:=id hn
  refine h _ ⟨I.ok,I.os,I.bare,⟨fun b o e n hb hx =>?_,fun b o e n hb hx =>?_,I.base.free,fun b o e hx =>?_,I.base.iV,I.base.iu,I.base.jz⟩,⟨_,hn',fun j y v' e1 e2 e3 =>?_⟩,fun y c e =>?_,I.free,I.freeC,fun p hp =>?_,tracked ⟨oL,hoL,I.free⟩ hs,by simpa using I.len⟩ ⟨_,hs,.inl rfl⟩
  ·exact(hs.2 b (Jk (Jn (Jf e) I.ok.above))).trans (I.base.keep b o e n hb hx)
  ·obtain⟨sl,e1⟩:=I.base.slot b o e n hb hx
   exact⟨sl,(hs.2 b (Jk (Jn (Jf e) I.ok.above))).trans e1⟩
  ·obtain⟨o',e1⟩:=I.base.there b o e hx
   exact⟨o',(hs.2 b (Jk (Jn (Jf e) I.ok.above))).trans e1⟩
  ·by_cases hj:j=i
   ·subst hj
    rw[hi] at e1;cases e1
    rw[Yj R1] at e2
    cases e2
    exact⟨u,r,.inl ⟨hk,by simp⟩⟩
   ·rw[Yc (Ne.symm hj)] at e2
    obtain⟨u',r',q⟩:=hl j y v' e1 e2 e3
    refine⟨u',r',?_⟩
    rcases q with ⟨k,e⟩|⟨k,c,e,z⟩
    ·refine .inl ⟨k,?_⟩
     have:y≠x:=fun e=>hj (oH hN e1 (e▸hi))
     simp[this,e]
    ·exact .inr ⟨k,c,e,z.sameBut hs (Ff y c e)⟩
  ·obtain⟨w',z⟩:=I.cell y c e
   exact⟨w',z.sameBut hs (Ff y c e)⟩
  ·obtain⟨e,n,ne,nf,d⟩:=I.pin p hp
   exact⟨(hs.2 p.1 ne).trans e,n,ne,nf,d⟩
 ·have NZ:X.fn x=true:=by
   rcases hf with z|z
   ·exact z
   ·rw[z] at hk;cases hk
  obtain⟨c,hc⟩:=I.ok.has x (.inl hk)
  obtain⟨w',z⟩:=I.cell x c hc
  refine wpAny_storeName_cell I.ok.kind hk hc z (fun h' hc' hs =>?_)
  obtain⟨oc,hoc,hocd⟩:=id z
  refine h { s with heap:=h' } ⟨I.ok,I.os,I.bare,⟨fun b o e n hb hx =>?_,fun b o e n hb hx =>?_,I.base.free,fun b o e hx =>?_,I.base.iV,I.base.iu,I.base.jz⟩,⟨m,hn.sameBut hs (Ne.symm (Ff x c hc)),fun j y v' e1 e2 e3 =>?_⟩,fun y c' e =>?_,I.free,I.freeC,fun p hp =>?_,tracked ⟨oc,hoc,I.freeC x c hc⟩ hs,by simpa using I.len⟩ ⟨c,hs,.inr hc⟩
  ·exact(hs.2 b (Jk (Jn (Jf e) (I.ok.cab x c NZ hc)))).trans (I.base.keep b o e n hb hx)
  ·obtain⟨sl,e1⟩:=I.base.slot b o e n hb hx
   exact⟨sl,(hs.2 b (Jk (Jn (Jf e) (I.ok.cab x c NZ hc)))).trans e1⟩
  ·obtain⟨o',e1⟩:=I.base.there b o e hx
   exact⟨o',(hs.2 b (Jk (Jn (Jf e) (I.ok.cab x c NZ hc)))).trans e1⟩
  ·by_cases hj:j=i
   ·subst hj
    rw[hi] at e1;cases e1
    rw[Yj R1] at e2
    cases e2
    exact⟨u,r,.inr ⟨.inl hk,c,hc,hc'⟩⟩
   ·rw[Yc (Ne.symm hj)] at e2
    obtain⟨u',r',q⟩:=hl j y v' e1 e2 e3
    refine⟨u',r',?_⟩
    rcases q with q|⟨k,c',e,z'⟩
    ·exact .inl q
    ·refine .inr ⟨k,c',e,z'.sameBut hs ?_⟩
     rintro rfl
     exact hj (oH hN e1 (I.ok.inj _ _ _ e hc▸hi))
  ·by_cases hcc:c'=c
   ·subst hcc;exact⟨_,hc'⟩
   ·obtain⟨w2,z2⟩:=I.cell y c' e
    exact⟨w2,z2.sameBut hs hcc⟩
  ·obtain⟨e,n,ne,nf,d⟩:=I.pin p hp
   refine⟨(hs.2 p.1 ?_).trans e,n,ne,nf,d⟩
   intro q
   rw[q,hoc] at e
   have q':oc=p.2:=Option.some.inj e
   exact d w' (by rw[<-q'];exact hocd)
theorem ff {M:Model}{A:Around}{E:Value->Shared->Prop}{i:Nat}{x:Str}{v:V}{u:Value}{Q:Unit->Shared->Prop}(I:Inv X pins σ H s)(hN:X.N.Nodup)(hi:X.N[i]? = some x)(hx:Loc X.env.scope x)(r:RelV v u)
  (h:∀s',Inv X pins (σ.set i (some v)) H s'->Q () s') (hf:X.fn x=true∨X.env.scope.names.lookup x=some .local:=by first|exact .inl rfl|exact .inr rfl|assumption):wpAny M A (storeName X.env x u) Q E s:=
 pG I hN hi hx r (fun s' I' _=>h s' I') hf
theorem Inv.CY {s':Shared}{ch:List Addr}(I:Inv X pins σ H s)(ho:s'.os=s.os)(u:Un (fK X.stack) ch H H' s.heap s'.heap)(bB:hZ X.prog X.w H' s'.heap)(hg:AllBare s'.gens)
  (xX:∀b∈ch,(b∈X.ex∨X.s₀.heap.objs.size<=b)/\b≠X.env.locals/\(∀x c,X.env.cells.lookup x=some c->c≠b)/\∀p∈X.pn++pins,p.1≠b):Inv X pins σ H' s':=by
 obtain⟨h',g',d',t',o'⟩:=s'
 have e:o'=s.os:=ho
 subst e
 exact I.call (g':=g') (t':=t') (d':=d') u bB hg xX
end
abbrev XK:=Value->Option Addr->Hp->Prop
noncomputable abbrev St:=List (Option V)
abbrev VK:=V->Hp->Prop
abbrev TE:=St->Hp->VK->Prop
abbrev TT:=St->Hp->(Bool->Hp->Prop)->Prop
abbrev TA:=St->Hp->(List V->Hp->Prop)->Prop
structure Ends where
 nx:St->Hp->Prop
 rt:VK
 bk:St->Hp->Prop:=fun _ _=>False
 ct:St->Hp->Prop:=fun _ _=>False
abbrev TS:=Ends->St->Hp->Prop
def EP (X:Cx)(pins:List (Addr×Obj))(σ:St)(Q:VK)(u:Value)(s':Shared):Prop:=fE fun v H'=>Inv X pins σ H' s'/\RelV v u/\Q v H'
def TP (X:Cx)(pins:List (Addr×Obj))(σ:St)(Q:Bool->Hp->Prop)(b:Bool)(s':Shared):Prop:=∃H',Inv X pins σ H' s'/\Q b H'
def AP (X:Cx)(pins:List (Addr×Obj))(σ:St)(Q:List V->Hp->Prop)(us:List Value)(s':Shared):Prop:=fE fun vs H'=>Inv X pins σ H' s'/\Vals vs us/\Q vs H'
instance PC {X:Cx} {pins:List (Addr×Obj)} {σ:St} {Q:VK} {u:Value} {s':Shared}:aj (EP X pins σ Q u s') (fun G=>∀v H',Inv X pins σ H' s'->RelV v u->Q v H'->G):=⟨fun⟨v,H',a,b,c⟩ _ k=>k v H' a b c⟩
instance Qp {X:Cx} {pins:List (Addr×Obj)} {σ:St} {Q:Bool->Hp->Prop} {b:Bool} {s':Shared}:aj (TP X pins σ Q b s') (fun G=>∀H',Inv X pins σ H' s'->Q b H'->G):=⟨fun⟨H',a,c⟩ _ k=>k H' a c⟩
instance QA {X:Cx} {pins:List (Addr×Obj)} {σ:St} {Q:List V->Hp->Prop} {us:List Value} {s':Shared}:aj (AP X pins σ Q us s') (fun G=>∀vs H',Inv X pins σ H' s'->Vals vs us->Q vs H'->G):=⟨fun⟨v,H',a,b,c⟩ _ k=>k v H' a b c⟩
def SP (X:Cx)(pins:List (Addr×Obj))(D:Ends)(f:Flow)(s':Shared):Prop:=
 match f with
 | .next=>fE fun σ' H'=>Inv X pins σ' H' s'/\D.nx σ' H'
 | .brk=>fE fun σ' H'=>Inv X pins σ' H' s'/\D.bk σ' H'
 | .cont=>fE fun σ' H'=>Inv X pins σ' H' s'/\D.ct σ' H'
 | .ret u=>mI fun v σ' H'=>Inv X pins σ' H' s'/\RelV v u/\D.rt v H'
def PE (X:Cx)(e:Expr)(t:TE):Prop:=
 ∀ ⦃pins:List (Addr×Obj)⦄ (s:Shared) (σ:St) (H:Hp) (Q:VK),Inv X pins σ H s->t σ H Q->wpAny (model X.prog X.w) X.A (eval e X.env) (EP X pins σ Q) X.xe s
def PT (X:Cx)(e:Expr)(t:TT):Prop:=
 ∀ ⦃pins:List (Addr×Obj)⦄ (s:Shared) (σ:St) (H:Hp) (Q:Bool->Hp->Prop),Inv X pins σ H s->t σ H Q->wpAny (model X.prog X.w) X.A (isTrue e X.env (eval e X.env)) (TP X pins σ Q) X.xe s
def PW (X:Cx)(e:Expr)(t:TT):Prop:=
 ∀ ⦃whole:Sem Value⦄ ⦃pins:List (Addr×Obj)⦄ (s:Shared) (σ:St) (H:Hp) (Q:Bool->Hp->Prop),Inv X pins σ H s->t σ H Q->wpAny (model X.prog X.w) X.A (isTrue e X.env whole) (TP X pins σ Q) X.xe s
theorem PW.pt {X:Cx}{e:Expr}{t:TT}(h:PW X e t):PT X e t:=fun pins s σ H Q I q=>h s σ H Q I q
def PA (X:Cx)(es:List Expr)(t:TA):Prop:=
 ∀ ⦃pos:Pos⦄ ⦃pins:List (Addr×Obj)⦄ (s:Shared) (σ:St) (H:Hp) (Q:List V->Hp->Prop),Inv X pins σ H s->t σ H Q->wpAny (model X.prog X.w) X.A (spliced (backTo pos (starEach es X.env))) (AP X pins σ Q) X.xe s
def PS (X:Cx)(st:Stmt)(t:TS):Prop:=
 ∀ ⦃pins:List (Addr×Obj)⦄ (s:Shared) (σ:St) (H:Hp) (D:Ends),Inv X pins σ H s->t D σ H->wpAny (model X.prog X.w) X.A (exec st X.env) (SP X pins D) X.xe s
def uV (X:Cx)(st:List Stmt)(t:TS):Prop:=
 ∀ ⦃pins:List (Addr×Obj)⦄ (s:Shared) (σ:St) (H:Hp) (D:Ends),Inv X pins σ H s->t D σ H->wpAny (model X.prog X.w) X.A (execs st X.env) (SP X pins D) X.xe s
theorem bG {α:Type}{t:Sem α}{Q Q': α->Shared->Prop}{M:Model}{A:Around}{E:Value->Shared->Prop}{s:Shared}(h:wpAny M A t Q E s)(hQ:∀a s,Q a s->Q' a s):wpAny M A t Q' E s:=wpAny_mono h hQ fun _ _ x=>x
section
variable {X:Cx}
def ph (i:Nat):TE:=fun σ H Q=>∃v,σ[i]? = some (some v)/\Q v H
def tC (v:V):TE:=fun _ H Q=>Q v H
theorem IL {i:Nat}{x:Str}{pos:Pos}(hN:X.N[i]? = some x)(hv:Ks X.env.scope x)(hd:(x==("__debug__" : Str))=false:=by decide)(vG:(x==("__classdict__" : Str))=false:=by decide):PE X (.Name x pos) (ph i):=by
 intro pins s σ H Q I h
 obtain⟨v,e,h⟩:=h
 obtain⟨m,hn,hl⟩:=I.loc
 obtain⟨u,r,l⟩:=hl i x v hN e hv
 have fin:EP X pins σ Q u s:=⟨v,H,I,r,h⟩
 rcases l with ⟨hk,hm⟩|⟨hk,c,hc,hcell⟩
 ·exact wpAny_Name (wpAny_loadName_local I.ok.kind hk hn hm fin) hd
 ·rcases hk with hk|hk
  ·exact wpAny_Name (wpAny_loadName_cell I.ok.kind hk hc hcell fin) hd
  ·exact wpAny_Name (wpAny_loadName_free I.ok.kind hk hc hcell fin vG) hd
theorem ah {i j pos}:PE X (.Constant (.int i) j pos) (tC (.int i)):=fun _ _ _ H _ I h=>wpAny_Constant_int ⟨.int i,H,I.tok _,⟨_,rfl⟩,h⟩
theorem fG {b j pos}:PE X (.Constant (.bool b) j pos) (tC (.bl b)):=fun _ _ _ H _ I h=>Constant_bool ⟨.bl b,H,I,rfl,h⟩
theorem cJ {j pos}:PE X (.Constant .none j pos) (tC .non):=fun _ _ _ H _ I h=>Constant_none ⟨.non,H,I,rfl,h⟩
theorem aD {x j pos}:PE X (.Constant (.str x) j pos) (tC (.str x)):=fun _ _ _ H _ I h=>Calls.Constant_str ⟨.str x,H,I.tok _,⟨_,rfl⟩,h⟩
def Gl (X:Cx)(x:Str):Prop:=X.env.kindOf x=some .globalImplicit
theorem ik {E:Value->Shared->Prop}{pins:List (Addr×Obj)}{s:Shared}{σ:St}{H:Hp}{x:Str}{u:Value}{pos:Pos}{Q:Value->Shared->Prop}(I:Inv X pins σ H s)(hg:Gl X x)(hm:X.mg x=some u)(h:Q u s)
  (hd:(x==("__debug__" : Str))=false:=by decide):wpAny (model X.prog X.w) X.A (eval (.Name x pos) X.env) Q E s:=
 Calls.Name_function_global I.ok.kind hg (Calls.loadGlobal_global (by rw[I.ok.glob];exact I.mod.glob.keeps I.bk) hm h) hd
theorem dU {E:Value->Shared->Prop}{pins:List (Addr×Obj)}{s:Shared}{σ:St}{H:Hp}{x:Str}{u:Value}{pos:Pos}{Q:Value->Shared->Prop}(I:Inv X pins σ H s)(hg:Gl X x)(hm:X.mg x=none)(hv:bootBuiltins x=some u)(h:Q u s)
  (hn:x ≠ "__name__":=by decide) (hd:(x==("__debug__" : Str))=false:=by decide):wpAny (model X.prog X.w) X.A (eval (.Name x pos) X.env) Q E s:=by
 obtain⟨mb,h1,h2⟩:=I.mod.blt
 exact Calls.Name_function_global I.ok.kind hg (Calls.loadGlobal_builtin (by rw[I.ok.glob];exact I.mod.glob.keeps I.bk) hm (by rw[I.ok.blt];exact h1.keeps I.bk) ((h2 x hn).trans hv) h) hd
theorem rH {x:Str}{v:V}{u:Value}{pos:Pos}(hg:Gl X x)(hm:X.mg x=some u)(r:RelV v u)(hd:(x==("__debug__" : Str))=false:=by decide):PE X (.Name x pos) (tC v):=
 fun _ _ _ H _ I h=>ik I hg hm ⟨v,H,I,r,h⟩ hd
theorem aY {x:Str}{v:V}{u:Value}{pos:Pos}(hg:Gl X x)(hm:X.mg x=none)(hv:bootBuiltins x=some u)(r:RelV v u)(hn:x ≠ "__name__":=by decide)(hd:(x==("__debug__" : Str))=false:=by decide):PE X (.Name x pos) (tC v):=
 fun _ _ _ H _ I h=>dU I hg hm hv ⟨v,H,I,r,h⟩ hn hd
variable {a b:Expr}{ta tb:TE}{pos:Pos}
def tB (t:TE):TT:=fun σ H Q=>t σ H fun x H1=>∃c,x = .bl c/\Q c H1
theorem br {e:Expr}{t:TE}(h:PE X e t)(he:∀whole,isTrue e X.env whole=(do let v <-whole;standAt e.pos;holding [v] (truthy v)):=by intro _;rfl):PT X e (tB t):=by
 intro pins s σ H Q I hw
 refine isTrue_plain (bG (h s σ H _ I hw) fun v s1 hz_=>aj.el hz_ _ fun x H1 I1 r1 q1 =>?_) (he _)
 obtain⟨d,rfl,q⟩:=q1
 cases r1
 exact wpAny_truthy_bool ⟨H1,I1,q⟩
variable {tA RU:TT}{rest:List Expr}
def Vl (t u:TT):TT:=fun σ H Q=>t σ H fun c H1=>if c=true then Q true H1 else u σ H1 Q
def Oo (t:TT):TT:=fun σ H Q=>t σ H fun c H1=>Q (!c) H1
theorem fq (ha:PT X a tA):PW X (.BoolOp .Or [a] pos) tA:=by
 intro wh pins s σ H Q I h
 refine isTrue_or (bG (ha s σ H Q I h) fun c s1 e =>?_)
 cases c with
 | false=>exact isTrue_or_nil e
 | true=>exact e
theorem gh (ha:PT X a tA)(hb:PW X (.BoolOp .Or (b::rest) pos) RU):PW X (.BoolOp .Or (a::b::rest) pos) (Vl tA RU):=by
 intro wh pins s σ H Q I h
 refine isTrue_or (bG (ha s σ H _ I h) fun c s1 hz_ =>?_)
 refine aj.el hz_ _ ?_
 clear hz_
 rintro H1 I1 q1
 cases c with
 | true=>exact⟨H1,I1,q1⟩
 | false=>exact hb s1 σ H1 Q I1 q1
theorem bT (ha:PT X a tA):PT X (.UnaryOp .Not a pos) (Oo tA):=by
 intro pins s σ H Q I h
 exact isTrue_not (ha s σ H (fun c H1=>Q (!c) H1) I h)
def L5 (ta tb:TE):TE:=fun σ H Q=>ta σ H fun x H1=>∃c,x = .bl c/\if c=true then tb σ H1 Q else Q (.bl false) H1
def LY (ta:TE):TE:=fun σ H Q=>ta σ H fun x H1=>∃c,x = .bl c/\Q (.bl (!c)) H1
theorem iL {op}{t:TE}(h:PE X a t):PE X (.BoolOp op [a] pos) t:=fun pins s σ H Q I hw=>BoolOp_one (h s σ H Q I hw)
theorem dY (ha:PE X a ta)(hb:PE X (.BoolOp .And (b::rest) pos) tb):PE X (.BoolOp .And (a::b::rest) pos) (L5 ta tb):=by
 intro pins s σ H Q I h
 refine BoolOp_and (bG (ha s σ H _ I h) fun v s1 hz_ =>?_)
 refine aj.el hz_ _ ?_
 clear hz_
 rintro x H1 I1 r1 q1
 obtain⟨c,rfl,q1⟩:=q1
 cases r1
 refine wpAny_truthy_bool ?_
 cases c with
 | true=>exact hb s1 σ H1 Q I1 q1
 | false=>exact⟨.bl false,H1,I1,rfl,q1⟩
theorem vt (ha:PE X a ta):PE X (.UnaryOp .Not a pos) (LY ta):=by
 intro pins s σ H Q I h
 refine UnaryOp_ (bG (ha s σ H _ I h) fun v s1 hz_ =>?_)
 refine aj.el hz_ _ ?_
 clear hz_
 rintro x H1 I1 r1 q1
 obtain⟨c,rfl,q1⟩:=q1
 cases r1
 exact not_of (wpAny_truthy_bool ⟨.bl (!c),H1,I1,rfl,q1⟩)
def MP (t:TT)(ta tb:TE):TE:=fun σ H Q=>t σ H fun c H1=>if c=true then ta σ H1 Q else tb σ H1 Q
theorem fV {c:Expr}(hc:PT X c tA)(ha:PE X a ta)(hb:PE X b tb):PE X (.IfExp c a b pos) (MP tA ta tb):=by
 intro pins s σ H Q I h
 refine wpAny_IfExp (bG (hc s σ H _ I h) fun d s1 hz_ =>?_)
 refine aj.el hz_ _ ?_
 clear hz_
 rintro H1 I1 q1
 cases d with
 | true=>exact ha s1 σ H1 Q I1 q1
 | false=>exact hb s1 σ H1 Q I1 q1
end
def aM (K:Ja)(H:Hp)(a:Addr)(xs:List V):Prop:=
 Rd H a (.lst xs) ∨
  mI fun(o:Obj) (aA:Array Value) (n:Nat)=>K.lookup a=some o/\o.cls = .type "list" /\ o.dict=none/\o.data = .seq aA n/\aA.size<=sizeLine/\Vals xs aA.toList
def cE (K:Ja)(H:Hp)(a:Addr)(xs:List V):Prop:=
 Rd H a (.tup xs) ∨
  mI fun(o:Obj) (aA:Array Value) (n:Nat)=>K.lookup a=some o/\o.cls = .type "tuple" /\ o.dict=none/\o.data = .seq aA n/\aA.size<=sizeLine/\Vals xs aA.toList
noncomputable def OU:Value->Option V
 | .none=>some .non
 | .bool b=>some (.bl b)
 | .int i _=>some (.int i)
 | .str x _=>some (.str x)
 | .bytes b _=>some (.byt b)
 | .float b _=>some (.flt b)
 | .ref a=>some (.ref a)
 | .type n=>some (.ty n)
 | _=>none
theorem RelV.abs {x:V}{u:Value}(r:RelV x u):OU u=some x:=by
 cases x with
 | non=>cases r;rfl
 | bl _=>cases r;rfl
 | int _=>obtain⟨t,rfl⟩:=r;rfl
 | str _=>obtain⟨t,rfl⟩:=r;rfl
 | byt _=>obtain⟨t,rfl⟩:=r;rfl
 | flt _=>obtain⟨t,rfl⟩:=r;rfl
 | ref _=>cases r;rfl
 | ty _=>cases r;rfl
theorem RelV.inj {x y:V}{u:Value}(r:RelV x u)(q:RelV y u):x=y:=Option.some.inj (r.abs.symm.trans q.abs)
theorem Vals.inj {xs ys:List V}{us:List Value}(h:Vals xs us)(h':Vals ys us):xs=ys:=by
 induction h generalizing ys with
 | nil=>cases h';rfl
 | cons r t ih=>cases h' with|cons r' t'=>rw[RelV.inj r r',ih t']
section
variable {X:Cx}{pins:List (Addr×Obj)}{σ:St}{H:Hp}{s:Shared}{a:Addr}{xs ys:List V}
theorem aM.of {K:Ja}(h:H a=some (.lst xs)):aM K H a xs := .inl (.inl h)
theorem cE.of {K:Ja}(h:H a=some (.tup xs)):cE K H a xs := .inl (.inl h)
theorem Inv.list (I:Inv X pins σ H s)(h:aM X.K H a xs):∃aA:List Value,Vals xs aA/\PlainL s.heap a aA.toArray/\xs.length<=sizeLine:=by
 rcases h with h|⟨o,aA,n,hk,hc,hd,hs,hz,r⟩
 ·obtain⟨z,aA,n,r,e⟩:=h.ok I.bB
  exact⟨aA,r,⟨_,n,e,rfl,rfl,rfl⟩,z⟩
 ·refine⟨aA.toList,r,⟨o,n,I.iA a o hk,hc,hd,by simpa using hs⟩,?_⟩
  have e:=r.length
  simp only[U6] at e
  omega
theorem Inv.tuple (I:Inv X pins σ H s)(h:cE X.K H a xs):∃aA:List Value,Vals xs aA/\IsTup s.heap a aA.toArray/\xs.length<=sizeLine:=by
 rcases h with h|⟨o,aA,n,hk,hc,hd,hs,hz,r⟩
 ·obtain⟨z,aA,r,p⟩:=h.ok I.bB
  exact⟨aA,r,p.is,z⟩
 ·refine⟨aA.toList,r,⟨o,I.iA a o hk,hc,n,by simpa using hs⟩,?_⟩
  have e:=r.length
  simp only[U6] at e
  omega
theorem Inv.gz (I:Inv X pins σ H s)(h:cE X.K H a xs):∃aA:List Value,Vals xs aA/\ux s.heap a aA.toArray/\xs.length<=sizeLine:=by
 rcases h with h|⟨o,aA,n,hk,hc,hd,hs,hz,r⟩
 ·obtain⟨z,aA,r,p⟩:=h.ok I.bB
  exact⟨aA,r,p,z⟩
 ·refine⟨aA.toList,r,⟨o,I.iA a o hk,hd,hc,n,by simpa using hs⟩,?_⟩
  have e:=r.length
  simp only[U6] at e
  omega
theorem Inv.gK (I:Inv X pins σ H s)(h:aM X.K H a xs)(h':aM X.K H a ys):xs=ys:=by
 obtain⟨aA,r,⟨o,n,e,_,_,d⟩,_⟩:=I.list h
 obtain⟨its',r',⟨o',n',e',_,_,d'⟩,_⟩:=I.list h'
 rw[e] at e';cases e'
 rw[d] at d'
 injection d' with d1 _
 have:aA=its':=by simpa using congrArg Array.toList d1
 subst this
 exact r.inj r'
theorem Inv.qa (I:Inv X pins σ H s)(h:cE X.K H a xs)(h':cE X.K H a ys):xs=ys:=by
 obtain⟨aA,r,⟨o,e,_,n,d⟩,_⟩:=I.tuple h
 obtain⟨its',r',⟨o',e',_,n',d'⟩,_⟩:=I.tuple h'
 rw[e] at e';cases e'
 rw[d] at d'
 injection d' with d1 _
 have:aA=its':=by simpa using congrArg Array.toList d1
 subst this
 exact r.inj r'
end
noncomputable abbrev Cx.pj (X:Cx)(E:Value->Shared->Prop):Cx:={ X with xe:=E }
noncomputable abbrev Cx.Nb (X:Cx):Cx:=X.pj fun _ _=>False
theorem Cx.Ok.pj {X:Cx}(ok:X.Ok)(E:Value->Shared->Prop):(X.pj E).Ok:=
 ⟨ok.mod,ok.kind,ok.glob,ok.blt,ok.above,ok.inj,ok.has,ok.cab,ok.hd,ok.frames,ok.stk,ok.exf,ok.bs,ok.bsz,ok.noex,ok.exfs,ok.jv,ok.frf⟩
theorem Cx.Ok.iT {X:Cx}{E:Value->Shared->Prop}(ok:(X.pj E).Ok):X.Ok:=
 ⟨ok.mod,ok.kind,ok.glob,ok.blt,ok.above,ok.inj,ok.has,ok.cab,ok.hd,ok.frames,ok.stk,ok.exf,ok.bs,ok.bsz,ok.noex,ok.exfs,ok.jv,ok.frf⟩
section
variable {X:Cx}{pins:List (Addr×Obj)}{σ:St}{H:Hp}{s:Shared}{E:Value->Shared->Prop}
theorem Inv.pj (I:Inv X pins σ H s)(E:Value->Shared->Prop):Inv (X.pj E) pins σ H s:=⟨I.ok.pj E,I.os,I.bare,I.base,I.loc,I.cell,I.free,I.freeC,I.pin,I.bB,I.len⟩
theorem Inv.iT (I:Inv (X.pj E) pins σ H s):Inv X pins σ H s:=⟨I.ok.iT,I.os,I.bare,I.base,I.loc,I.cell,I.free,I.freeC,I.pin,I.bB,I.len⟩
theorem SP.iT {D:Ends}{f:Flow}{s':Shared}(h:SP (X.pj E) pins D f s'):SP X pins D f s':=by
 cases f with
 | next=>obtain⟨σ',H',I,q⟩:=h;exact⟨σ',H',I.iT,q⟩
 | brk=>obtain⟨σ',H',I,q⟩:=h;exact⟨σ',H',I.iT,q⟩
 | cont=>obtain⟨σ',H',I,q⟩:=h;exact⟨σ',H',I.iT,q⟩
 | ret u=>obtain⟨v,σ',H',I,r,q⟩:=h;exact⟨v,σ',H',I.iT,r,q⟩
theorem uV.Nb {st:List Stmt}{t:TS}(h:uV X.Nb st t):uV X st t:=fun pins s σ H D I hw=>
 wpAny_mono (h s σ H D (I.pj _) hw) (fun _ _ q=>q.iT) fun _ _ z=>False.elim z
end
section
variable {X:Cx}{st:Stmt}{rest:List Stmt}{t u:TS}{e:Expr}{te:TE}{pos:Pos}
def eG:TS:=fun D σ H=>D.nx σ H
def EC (t u:TS):TS:=fun D σ H=>t { D with nx:=u D } σ H
theorem aN:uV X [] eG:=fun _ _ σ H _ I h=>wpAny_execs_nil ⟨σ,H,I,h⟩
theorem af (h1:PS X st t)(h2:uV X rest u):uV X (st::rest) (EC t u):=by
 intro pins s σ H D I h
 refine wpAny_execs_cons (bG (h1 s σ H { D with nx:=u D } I h) fun f s1 q =>?_)
 cases f with
 | next=>
  obtain⟨σ',H',I',q⟩:=q
  exact h2 s1 σ' H' D I' q
 | ret v=>exact q
 | brk=>exact q
 | cont=>exact q
theorem ag (h1:PS X st t):uV X [st] t:=by
 intro pins s σ H D I h
 refine wpAny_execs_cons (bG (h1 s σ H D I h) fun f s1 q =>?_)
 cases f with
 | next=>exact wpAny_execs_nil q
 | ret v=>exact q
 | brk=>exact q
 | cont=>exact q
theorem Inv.quiet {pins:List (Addr×Obj)}{σ:St}{H:Hp}{s:Shared}(I:Inv X pins σ H s):interactive X.env=false:=by simp[interactive,I.ok.kind]
def Lw (te:TE):TS:=fun D σ H=>te σ H fun _ H1=>D.nx σ H1
theorem kE (he:PE X e te)(hs:swapsWith e none pos.line X.env=pure false:=by rfl):PS X (.Expr e pos) (Lw te):=by
 intro pins s σ H D I h
 exact wpAny_Expr_any (bG (he s σ H _ I h) fun v s1 hz_=>aj.el hz_ _ fun x H1 I1 r1 q1=>⟨σ,H1,I1,q1⟩) I.quiet hs
def N8 (te:TE):TS:=fun D σ H=>te σ H D.rt
theorem aB (he:PE X e te):PS X (.Return (some e) pos) (N8 te):=by
 intro pins s σ H D I h
 exact wpAny_Return_some (bG (he s σ H _ I h) fun v s1 hz_=>aj.el hz_ _ fun x H1 I1 r1 q1=>⟨x,σ,H1,I1,r1,q1⟩)
def zb (c:TT)(t u:TS):TS:=fun D σ H=>c σ H fun b H1=>if b=true then t D σ H1 else u D σ H1
theorem aX {c:Expr}{a b:List Stmt}{tc:TT}(hc:PT X c tc)(ha:uV X a t)(hb:uV X b u):PS X (.If c a b pos) (zb tc t u):=by
 intro pins s σ H D I h
 refine wpAny_If (bG (hc s σ H _ I h) fun d s1 hz_ =>?_)
 refine aj.el hz_ _ ?_
 clear hz_
 rintro H1 I1 q1
 cases d with
 | true=>exact ha s1 σ H1 D I1 q1
 | false=>exact hb s1 σ H1 D I1 q1
end
abbrev TG:=V->St->Hp->(St->Hp->Prop)->Prop
abbrev y8:=List V->St->Hp->(St->Hp->Prop)->Prop
def PG (X:Cx)(target:Expr)(t:TG):Prop:=
 ∀ ⦃pins:List (Addr×Obj)⦄ (s:Shared) (σ:St) (H:Hp) (v:V) (u:Value) (Q:St->Hp->Prop),Inv X pins σ H s->RelV v u->t v σ H Q ->
  wpAny (model X.prog X.w) X.A (assign target X.env u) (fun _ s'=>fE fun σ' H'=>Inv X pins σ' H' s'/\Q σ' H') X.xe s
def Le (X:Cx)(ts:List Expr)(t:y8):Prop:=
 ∀ ⦃pins:List (Addr×Obj)⦄ (s:Shared) (σ:St) (H:Hp) (vs:List V) (us:List Value) (Q:St->Hp->Prop),Inv X pins σ H s->Vals vs us->t vs σ H Q ->
  wpAny (model X.prog X.w) X.A (assignInOrder ((assignEach ts X.env).map (·.2)) us) (fun _ s'=>fE fun σ' H'=>Inv X pins σ' H' s'/\Q σ' H') X.xe s
abbrev HN:=V->V->V->Hp->(Hp->Prop)->Prop
def Mp (X:Cx)(t:HN):Prop:=
 ∀ ⦃pins:List (Addr×Obj)⦄ (s:Shared) (σ:St) (H:Hp) (o i v:V) (ov iv u:Value) (Q:Hp->Prop),Inv X pins σ H s->RelV o ov->RelV i iv->RelV v u->t o i v H Q ->
  wpAny (model X.prog X.w) X.A (setItem ov iv u) (fun _ s'=>∃H',Inv X pins σ H' s'/\Q H') X.xe s
section
variable {X:Cx}{pos:Pos}
def nE (i:Nat):TG:=fun v σ H Q=>Q (σ.set i (some v)) H
theorem aU {i:Nat}{x:Str}(hN:X.N.Nodup)(hi:X.N[i]? = some x)(hx:Loc X.env.scope x)(hf:X.fn x=true∨X.env.scope.names.lookup x=some .local:=by first|exact .inl rfl|exact .inr rfl|assumption):PG X (.Name x pos) (nE i):=by
 intro pins s σ H v u Q I r h
 exact wpAny_assign_Name (ff I hN hi hx r (fun s' I'=>⟨_,H,I',h⟩) hf)
noncomputable def IA:y8:=fun vs σ H Q=>vs=[]/\Q σ H
noncomputable def Cm (t:TG)(u:y8):y8:=fun vs σ H Q=>fE fun v r=>vs=v::r/\t v σ H fun σ' H'=>u r σ' H' Q
theorem dB:Le X [] IA:=by
 intro pins s σ H vs us Q I r h
 obtain⟨e,h⟩:=h
 subst e
 cases r
 exact assignInOrder_nil ⟨σ,H,I,h⟩
theorem bb {e:Expr}{es:List Expr}{t:TG}{u:y8}(h1:PG X e t)(h2:Le X es u)
  (hs:(assignEach (e::es) X.env).map (·.2)=assign e X.env::(assignEach es X.env).map (·.2):=by rfl):Le X (e::es) (Cm t u):=by
 intro pins s σ H vs us Q I r h
 obtain⟨v,vr,e1,h⟩:=h
 subst e1
 cases r with
 | cons r rr=>
  rw[hs]
  refine assignInOrder_cons (bG (h1 s σ H _ _ _ I r h) fun _ s1 hz_ =>?_)
  refine aj.el hz_ _ ?_
  clear hz_
  rintro σ1 H1 I1 q1
  exact h2 s1 σ1 H1 _ _ Q I1 rr q1
def Ik (K:Ja)(n:Nat)(t:y8):TG:=fun v σ H Q=>fE fun a xs=>v = .ref a/\cE K H a xs/\xs.length=n/\t xs σ H Q
theorem Hf {es:List Expr}{k:Nat}{t:y8}{n:Nat}(hc:X.calm=true)(h:Le X es t)
  (hn:(assignEach es X.env).length=n:=by rfl) (kM:(assignEach es X.env).findIdx? (·.1)=none:=by rfl):PG X (.Tuple es k pos) (Ik X.K n t):=by
 intro pins s σ H v u Q I r hw
 obtain⟨a,xs,e1,hq,hl,hw⟩:=hw
 subst e1
 cases r
 obtain⟨aA,rv,ht,hz⟩:=I.tuple hq
 refine assign_Tuple_tuple (I.ok.hd hc) ht (by simp[hn,<-hl,rv.length]) kM fun h' hx =>?_
 have I1:Inv X pins σ H { s with heap:=h' }:=I.kept (t':=s.toks) fun b o e=>hx b o (Jk (Jf e)) e
 exact h _ σ H xs _ Q I1 (by simpa using rv) hw
def ON (to ti:TE)(t:HN):TG:=fun v σ H Q=>to σ H fun o H1=>ti σ H1 fun i H2=>t o i v H2 fun H3=>Q σ H3
theorem gI {o i:Expr}{to ti:TE}{t:HN}(ho:PE X o to)(hi:PE X i ti)(hs:Mp X t)
  (ha:∀v,assign (.Subscript o i pos) X.env v=(do
   let ov <-holding [v] (eval o X.env)
   let iv <-holding [v,ov] (eval i X.env)
   standAt pos
   holding [v,ov,iv] (setItem ov iv v)
   release [v,ov,iv] []):=by intro _;rfl):PG X (.Subscript o i pos) (ON to ti t):=by
 intro pins s σ H v u Q I r h
 rw[ha]
 refine wpAny_bind (wpAny_holding (bG (ho s σ H _ I h) fun ov s1 hz_ =>?_))
 refine aj.el hz_ _ ?_
 clear hz_
 rintro x H1 I1 r1 q1
 refine wpAny_bind (wpAny_holding (bG (hi s1 σ H1 _ I1 q1) fun iv s2 hz_ =>?_))
 refine aj.el hz_ _ ?_
 clear hz_
 rintro y H2 I2 r2 q2
 refine wpAny_bind (wpAny_standAt (wpAny_bind (wpAny_holding (bG (hs s2 σ H2 x y v ov iv u _ I2 r1 r2 r q2) fun _ s3 hz_ =>?_))))
 refine aj.el hz_ _ ?_
 clear hz_
 rintro H3 I3 q3
 exact wpAny_release ⟨σ,H3,I3,q3⟩
def Fh (te:TE)(g:TG):TS:=fun D σ H=>te σ H fun x H1=>g x σ H1 D.nx
theorem fP {tg e:Expr}{te:TE}{g:TG}(he:PE X e te)(hg:PG X tg g)(hs:swapsWithSole [tg] e pos.line X.env=pure false:=by rfl)(hw:swappedStores [tg] e X.env=pure none:=by rfl)
  (h1:(assignEach [tg] X.env).map (·.2)=[assign tg X.env]:=by rfl):PS X (.Assign [tg] e pos) (Fh te g):=by
 intro pins s σ H D I h
 refine wpAny_Assign_stores (bG (he s σ H _ I h) fun v s1 hz_=>aj.el hz_ _ fun x H1 I1 r1 q1 =>?_) hs hw
 rw[h1]
 exact bG (hg s1 σ H1 x v _ I1 r1 q1) fun _ s2 q=>q
theorem aL {i:Nat}{x:Str}{e:Expr}{te:TE}{pos':Pos}(hN:X.N.Nodup)(hi:X.N[i]? = some x)(hx:Loc X.env.scope x)(he:PE X e te)(hs:swapsWith e (some (.Name x pos')) pos.line X.env=pure false:=by rfl)(hf:X.fn x=true∨X.env.scope.names.lookup x=some .local:=by first|exact .inl rfl|exact .inr rfl|assumption):
  PS X (.Assign [.Name x pos'] e pos) (Fh te (nE i)):=by
 intro pins s σ H D I h
 refine wpAny_Assign_Name (bG (he s σ H _ I h) fun v s1 hz_=>aj.el hz_ _ fun y H1 I1 r1 q1 =>?_) hs
 exact ff I1 hN hi hx r1 (fun s2 I2=>⟨_,H1,I2,q1⟩) hf
def O2 (i j:Nat)(ta:TA):TS:=fun D σ H=>ta σ H fun vs H1=>fE fun v w=>vs=[v,w]/\D.nx ((σ.set i (some v)).set j (some w)) H1
theorem Ip {i j:Nat}{x y:Str}{a b:Expr}{ta:TA}{px py pt:Pos}{kt k2 pt2}(hc:X.calm=true)(hN:X.N.Nodup)(hi:X.N[i]? = some x)(hj:X.N[j]? = some y)(mL:i≠j)
  (hx:X.env.scope.names.lookup x=some .local) (hy:X.env.scope.names.lookup y=some .local) (ha:PA X [a,b] ta)
  (hw:swappedStores [.Tuple [.Name x px,.Name y py] kt pt] (.Tuple [a,b] k2 pt2) X.env=pure (some [x,y]))
  (hs:swapsWithSole [.Tuple [.Name x px,.Name y py] kt pt] (.Tuple [a,b] k2 pt2) pos.line X.env=pure false:=by rfl) :
  PS X (.Assign [.Tuple [.Name x px,.Name y py] kt pt] (.Tuple [a,b] k2 pt2) pos) (O2 i j ta):=by
 intro pins s σ H D I h
 rw[exec_Assign_arm]
 refine wpAny_bind (wpAny_standAt ?_)
 rw[hs]
 refine wpAny_bind (wpAny_pure ?_)
 rw[if_neg (by decide)]
 refine wpAny_bind (Tuple_ (bG (ha s σ H _ I h) fun us s1 hz_ =>?_))
 refine aj.el hz_ _ ?_
 clear hz_
 rintro vs H1 I1 r1 q1
 obtain⟨v,w,e1,q1⟩:=q1
 subst e1
 obtain⟨u1,u2,rfl,rv,rw'⟩:∃u1 u2,us=[u1,u2]/\RelV v u1/\RelV w u2:=by
  cases r1 with
  | cons p q=>
   cases q with
   | cons p' q'=>
    cases q'
    exact⟨_,_,rfl,p,p'⟩
 refine wpAny_newObj_type ?_ (by show 2<=sizeLine;decide)
 have I2:Inv X pins σ H1 { s1 with heap:=s1.heap.push { cls := .type "tuple",data := .seq [u1,u2].toArray } }:=I1.kept (t':=s1.toks) fun b o e=>Jb _ e
 rw[hw]
 refine wpAny_bind (wpAny_pure ?_)
 show wpAny (model X.prog X.w) X.A (do rule "assign.swapped-stores";let items <-unpackItems (.ref s1.heap.objs.size) 2 none;assignInOrder [fun v=>bindName X.env y v,fun v=>bindName X.env x v] items.reverse;pure Flow.next) _ _ _
 refine wpAny_bind (wpAny_rule (wpAny_bind (unpackItems_tuple (items := #[u1,u2]) (I.ok.hd hc) (IsTup.new s1.heap _) fun h' lV =>?_)))
 have I3:=I2.kept (h':=h') (t':=s1.toks) fun b o e=>lV b o (Jk (Jf e)) e
 show wpAny _ _ (assignInOrder [fun v=>bindName X.env y v,fun v=>bindName X.env x v] [u2,u1] >>= fun _=>pure Flow.next) _ _ _
 refine wpAny_bind (assignInOrder_cons (wpAny_bindName (ff I3 hN hj (.inl hy) rw' (fun s2 I4 =>?_) (.inr hy))))
 refine assignInOrder_cons (wpAny_bindName (ff I4 hN hi (.inl hx) rv (fun s3 I5=>assignInOrder_nil (wpAny_pure ?_)) (.inr hx)))
 rw[List.set_comm _ _ (Ne.symm mL)] at I5
 exact⟨_,H1,I5,q1⟩
end
section
variable {X:Cx}{pos:Pos}
def rG (c:TT)(tb:TS):TS:=fun D σ H=>∃W:Nat->St->Hp->Prop,(∃m,W m σ H)/\∀m σ H,W m σ H ->
 c σ H fun b H1=>if b=true then ∃N:St->Hp->Prop,(∀ σ' H',N σ' H'->∃m',m'<m/\W m' σ' H')/\tb { D with nx:=N,ct:=N,bk:=D.nx } σ H1 else D.nx σ H1
theorem su {c:Expr}{body:List Stmt}{tc:TT}{tb:TS}(hp:PassesOwn (model X.prog X.w) X.A X.env X.xe)(hc:PT X c tc)(hb:uV X body tb):PS X (.While c body [] pos) (rG tc tb):=by
 intro pins s σ H D I h
 obtain⟨W,⟨m0,w0⟩,turn⟩:=h
 refine wpAny_While (codeAny_whileLoop (fun n s'=>∃ σ' H',Inv X pins σ' H' s'/\W n σ' H') ?_ m0 ⟨σ,H,I,w0⟩)
 rintro n s1 ⟨σ1,H1,I1,w1⟩
 refine wpAny_passesOwn hp (bG (hc s1 σ1 H1 _ I1 (turn n σ1 H1 w1)) fun b s2 hz_ =>?_)
 refine aj.el hz_ _ ?_
 clear hz_
 rintro H2 I2 q2
 cases b with
 | true=>
  obtain⟨N,hN,q2⟩:=q2
  rw[if_pos rfl]
  refine wpAny_passesOwn hp (bG (hb s2 σ1 H2 _ I2 q2) fun f s3 q3 =>?_)
  cases f with
  | next=>
   obtain⟨σ3,H3,I3,n3⟩:=q3
   obtain⟨m',hm,w3⟩:=hN σ3 H3 n3
   exact⟨m',hm,σ3,H3,I3,w3⟩
  | cont=>
   obtain⟨σ3,H3,I3,n3⟩:=q3
   obtain⟨m',hm,w3⟩:=hN σ3 H3 n3
   exact⟨m',hm,σ3,H3,I3,w3⟩
  | brk=>exact q3
  | ret v=>exact q3
 | false=>
  rw[if_neg Jt]
  exact wpAny_execs_nil ⟨σ1,H2,I2,q2⟩
end
structure It where
 go:Nat->Hp->Prop
 yld:Nat->Hp->V->Hp->Prop
 stop:Nat->Hp->Prop
def eu (X:Cx)(pins:List (Addr×Obj))(H:Hp)(b:Addr):Prop:=
 H b=none/\b≠X.env.locals/\b∉X.fs/\(b∈X.ex∨X.s₀.heap.objs.size<=b)/\(∀x c,X.env.cells.lookup x=some c->c≠b)/\∀p∈X.pn++pins,p.1≠b
theorem Inv.eC {X:Cx}{pins:List (Addr×Obj)}{σ:St}{H H':Hp}{s:Shared}{b:Addr}(I:Inv X pins σ H s)(hb:s.heap.objs.size<=b)(hn:H' b=none):eu X pins H' b:=by
 refine⟨hn,Uk (Jn I.lt hb),I.K4 hb,.inr (Jg I.sz hb),fun x c e z =>?_,fun p hp z =>?_⟩
 ·obtain⟨v,q⟩:=I.cell x c e
  exact absurd (Jn q.lt (by rw[z];exact hb)) (Uj _)
 ·exact absurd (Jn (Jf (I.pin p hp).1) (by rw[z];exact hb)) (Uj _)
structure Turn (P:Program)(w:World)(K:Ja)(tg:Expr)(J:It)(fp:List Addr)(it:Addr)(tn:Nat->Heap->Prop):Prop where
 mem:it∈fp
 obj:∀i h,tn i h->∀b∈fp,∃o,h.get? b=some o/\∀v,o.data ≠ .cell v
 keep:∀i h h',tn i h->(∀b∈fp,∀o,h.get? b=some o->h'.get? b=some o)->tn i h'
 item:∀(X:Cx),X.prog=P->X.w=w->X.K=K->X.calm=true->∀(i:Nat) (pins:List (Addr×Obj)) (s:Shared) (σ:St) (H:Hp) (E:Value->Shared->Prop),Inv X pins σ H s->(∀b∈fp,eu X pins H b)->tn i s.heap->J.go i H ->
  wpAny (model P w) X.A (pyNext (.ref it)) (fun r s1=>∃u,r=some u /\
   wpAny (model P w) X.A (letOwnedTupleGo tg (.ref it) u) (fun _ s2=>∃x H',Inv X pins σ H' s2/\RelV x u/\J.yld i H x H'/\tn (i+1) s2.heap/\∀b∈fp,H' b=none) E s1) E s
 done:∀(X:Cx),X.prog=P->X.w=w->X.K=K->X.calm=true->∀(i:Nat) (pins:List (Addr×Obj)) (s:Shared) (σ:St) (H:Hp) (E:Value->Shared->Prop),Inv X pins σ H s->(∀b∈fp,eu X pins H b)->tn i s.heap->J.stop i H ->
  wpAny (model P w) X.A (pyNext (.ref it)) (fun r s1=>r=none/\Inv X pins σ H s1) E s
 self:∀(A:Around) (i:Nat) (s:Shared) (Q:Value->Shared->Prop) (E:Value->Shared->Prop),tn i s.heap->Q (.ref it) s->wpAny (model P w) A (pyIter (.ref it)) Q E s
abbrev TI:=St->Hp->(It->Hp->Prop)->Prop
def RZ (X:Cx)(pins:List (Addr×Obj))(σ:St)(tg:Expr)(R:It->Hp->Prop)(MS:Value)(s2:Shared):Prop:=
 uR fun(it:Addr) (fp:List Addr) (tn:Nat->Heap->Prop) (J:It) (H':Hp)=>MS = .ref it/\Inv X pins σ H' s2/\Turn X.prog X.w X.K tg J fp it tn/\tn 0 s2.heap/\(∀b∈fp,eu X pins H' b)/\R J H'
def PI (X:Cx)(tg iter:Expr)(wi:TI):Prop:=
 ∀ ⦃pins:List (Addr×Obj)⦄ (s:Shared) (σ:St) (H:Hp) (R:It->Hp->Prop),Inv X pins σ H s->wi σ H R ->
  wpAny (model X.prog X.w) X.A (eval iter X.env) (fun v s1=>wpAny (model X.prog X.w) X.A (pyIter v) (RZ X pins σ tg R) X.xe s1) X.xe s
theorem xS {M:Model}{A:Around}{E:Value->Shared->Prop}{s:Shared}{tg:Expr}{it:Addr}{u:Value}{o:Obj}{n:String}{vs:Array Value}{Q:Unit->Shared->Prop}(ho:s.heap.get? it=some o)(hc:o.cls = .type n)(hd:o.data = .fields vs)
  (hn:["enumerate", "zip", "dict_itemiterator", "dict_reverseitemiterator", "odict_iterator", "itertools.zip_longest", "itertools.pairwise"].contains n=false) (hQ:Q () s):wpAny M A (letOwnedTupleGo tg (.ref it) u) Q E s:=by
 unfold letOwnedTupleGo
 cases tg<;>first
  | exact wpAny_pure hQ
  | (cases u<;>first
    | exact wpAny_pure hQ
    | (refine wpAny_bind (wpAny_load ho ?_)
       rw[hc,hd]
       show wpAny M A (if (["enumerate", "zip", "dict_itemiterator", "dict_reverseitemiterator", "odict_iterator", "itertools.zip_longest", "itertools.pairwise"].contains n&&vs[0]? == some (rawInt _))=true then _ else _) Q E s
       rw[if_neg (by intro h;rw[hn,U9] at h;cases h)]
       exact wpAny_pure hQ))
noncomputable def IP (K:Ja)(a:Addr):It:=
 ⟨fun i H=>fE fun xs x=>aM K H a xs/\xs[i]? = some x,fun i H x H'=>H'=H/\∀xs,aM K H a xs->xs[i]? = some x,fun i H=>∃xs,aM K H a xs/\xs.length<=i⟩
noncomputable def Py (K:Ja)(a:Addr):It:=
 ⟨fun i H=>fE fun xs x=>cE K H a xs/\xs[i]? = some x,fun i H x H'=>H'=H/\∀xs,cE K H a xs->xs[i]? = some x,fun i H=>∃xs,cE K H a xs/\xs.length<=i⟩
noncomputable def JA (lo:Int)(n:Nat):It:=⟨fun i _=>i<n,fun i H x H'=>H'=H/\x = .int (lo+i),fun i _=>n<=i⟩
theorem yp {P:Program}{w:World}{K:Ja}{tg:Expr}(a it:Addr):Turn P w K tg (IP K a) [it] it (fun i h=>h.IsListIter it a i) where
 mem:=by simp
 obj:=fun i h st b hb=>by
  have e:b=it:=by simpa using hb
  subst e
  obtain⟨o,e,c,d⟩:=st
  exact⟨o,e,fun v z=>by rw[d] at z;cases z⟩
 keep:=fun i h h' st k=>st.at fun o e=>k it (by simp) o e
 item:=by
  intro X hP hw hK hc i pins s σ H E I hf st hg
  subst hP hw hK
  obtain⟨xs,x,hq,hx⟩:=hg
  obtain⟨aA,rv,p,hz⟩:=I.list hq
  obtain⟨u,hu,ru⟩:=rv.get hx
  obtain⟨f0,f1,f2,f3,f4,f5⟩:=hf it (by simp)
  refine wpAny_pyNext_list_item st p.isList (x:=u) (by simpa using hu) fun h' st' sb =>?_
  have I1:Inv X pins σ H { s with heap:=h' }:=I.turned (t':=s.toks) (fun b o hb e=>(sb.2 b hb).trans e) f0 f1 f3 f4 f5
  obtain⟨o,e,c,d⟩:=id st'
  exact⟨u,rfl,xS (s:={ s with heap:=h' }) e c d (by decide) ⟨x,H,I1,ru,⟨rfl,fun ys hy=>by rw[I.gK hy hq];exact hx⟩,st',fun b hb=>(hf b hb).1⟩⟩
 done:=by
  intro X hP hw hK hc i pins s σ H E I hf st hg
  subst hP hw hK
  obtain⟨xs,hq,hx⟩:=hg
  obtain⟨aA,rv,p,hz⟩:=I.list hq
  obtain⟨f0,f1,f2,f3,f4,f5⟩:=hf it (by simp)
  have hl:=rv.length
  exact wpAny_pyNext_list_end (I.ok.hd hc) st p.isList (by simp;omega) fun h' eb=>⟨rfl,I.turned (t':=s.toks) (fun b o hb e=>eb b o hb e) f0 f1 f3 f4 f5⟩
 self:=fun _ _ _ _ _ st h=>wpAny_pyIter_listiter st h
theorem wC {P:Program}{w:World}{K:Ja}{tg:Expr}(a it:Addr):Turn P w K tg (Py K a) [it] it (fun i h=>h.IsTupleIter it a i) where
 mem:=by simp
 obj:=fun i h st b hb=>by
  have e:b=it:=by simpa using hb
  subst e
  obtain⟨o,e,c,d⟩:=st
  exact⟨o,e,fun v z=>by rw[d] at z;cases z⟩
 keep:=fun i h h' st k=>st.at fun o e=>k it (by simp) o e
 item:=by
  intro X hP hw hK hc i pins s σ H E I hf st hg
  subst hP hw hK
  obtain⟨xs,x,hq,hx⟩:=hg
  obtain⟨aA,rv,p,hz⟩:=I.tuple hq
  obtain⟨u,hu,ru⟩:=rv.get hx
  obtain⟨f0,f1,f2,f3,f4,f5⟩:=hf it (by simp)
  refine wpAny_pyNext_tuple_item st (show s.heap.IsTuple a aA.toArray from p) (x:=u) (by simpa using hu) fun h' st' sb =>?_
  have I1:Inv X pins σ H { s with heap:=h' }:=I.turned (t':=s.toks) (fun b o hb e=>(sb.2 b hb).trans e) f0 f1 f3 f4 f5
  obtain⟨o,e,c,d⟩:=id st'
  exact⟨u,rfl,xS (s:={ s with heap:=h' }) e c d (by decide) ⟨x,H,I1,ru,⟨rfl,fun ys hy=>by rw[I.qa hy hq];exact hx⟩,st',fun b hb=>(hf b hb).1⟩⟩
 done:=by
  intro X hP hw hK hc i pins s σ H E I hf st hg
  subst hP hw hK
  obtain⟨xs,hq,hx⟩:=hg
  obtain⟨aA,rv,p,hz⟩:=I.tuple hq
  obtain⟨f0,f1,f2,f3,f4,f5⟩:=hf it (by simp)
  have hl:=rv.length
  exact wpAny_pyNext_tuple_end (I.ok.hd hc) st (show s.heap.IsTuple a aA.toArray from p) (by simp;omega) fun h' eb=>⟨rfl,I.turned (t':=s.toks) (fun b o hb e=>eb b o hb e) f0 f1 f3 f4 f5⟩
 self:=fun _ _ _ _ _ st h=>wpAny_pyIter_tupleiter st h
theorem wQ {P:Program}{w:World}{K:Ja}{tg:Expr}(it:Addr)(lo:Int)(n:Nat):Turn P w K tg (JA lo n) [it] it (fun i h=>IsRangeIter h it (lo+(i:Nat)*1) ((n:Int)-(i:Nat)) 1) where
 mem:=by simp
 obj:=fun i h st b hb=>by
  have e:b=it:=by simpa using hb
  subst e
  exact⟨_,st,fun v z=>by
   have z':Data.fields _=Data.cell v:=z
   cases z'⟩
 keep:=fun i h h' st k=>k it (by simp) _ st
 item:=by
  intro X hP hw hK hc i pins s σ H E I hf st hg
  subst hP hw hK
  obtain⟨f0,f1,f2,f3,f4,f5⟩:=hf it (by simp)
  have W:=Walks.range (prog:=X.prog) (w:=X.w) (I.ok.hd hc) it lo 1 n
  refine W.item i s _ _ hg st fun v h' tk hv st' kk =>?_
  obtain⟨t,rfl⟩:=hv
  have I1:Inv X pins σ H { s with heap:=h',toks:=tk }:=I.turned (fun b o hb e=>kk b o (by simpa using hb) e) f0 f1 f3 f4 f5
  refine⟨_,rfl,xS (s:={ s with heap:=h',toks:=tk }) (n := "range_iterator") st' rfl rfl (by decide) ⟨.int (lo+i),H,I1,⟨t,?_⟩,⟨rfl,rfl⟩,st',fun b hb=>(hf b hb).1⟩⟩
  rw[Int.mul_one]
 done:=by
  intro X hP hw hK hc i pins s σ H E I hf st hg
  subst hP hw hK
  obtain⟨f0,f1,f2,f3,f4,f5⟩:=hf it (by simp)
  exact wpAny_pyNext_range_end (I.ok.hd hc) st (by have:n<=i:=hg;omega) fun h' eb=>⟨rfl,I.turned (t':=s.toks) (fun b o hb e=>eb b o hb e) f0 f1 f3 f4 f5⟩
 self:=fun _ _ _ _ _ st h=>wpAny_pyIter_rangeiter st h
section
variable {X:Cx}{tg:Expr}
def xN (K:Ja)(tl:TE):TI:=fun σ H R=>tl σ H fun x H1=>∃a,x = .ref a/\(∃xs,aM K H1 a xs)/\R (IP K a) H1
def G9 (K:Ja)(tl:TE):TI:=fun σ H R=>tl σ H fun x H1=>∃a,x = .ref a/\(∃xs,cE K H1 a xs)/\R (Py K a) H1
theorem Ec {l:Expr}{tl:TE}(hl:PE X l tl):PI X tg l (xN X.K tl):=by
 intro pins s σ H R I h
 refine bG (hl s σ H _ I h) fun v s1 hz_ =>?_
 refine aj.el hz_ _ ?_
 clear hz_
 rintro x H1 I1 r1 q1
 obtain⟨a,e,⟨xs,hq⟩,q⟩:=q1
 subst e
 cases r1
 obtain⟨aA,rv,p,hz⟩:=I1.list hq
 refine wpAny_pyIter_list p.isList ?_
 refine⟨s1.heap.objs.size,[s1.heap.objs.size],_,_,H1,rfl,I1.kept (t':=s1.toks) fun b o e=>Jb _ e,yp a _,⟨_,Ji _ rfl,rfl,rfl⟩,fun b hb =>?_,q⟩
 have e:b=s1.heap.objs.size:=by simpa using hb
 subst e
 exact I1.eC (Jd _) (I1.bB.fresh (Jd _))
theorem Gh {l:Expr}{tl:TE}(hl:PE X l tl):PI X tg l (G9 X.K tl):=by
 intro pins s σ H R I h
 refine bG (hl s σ H _ I h) fun v s1 hz_ =>?_
 refine aj.el hz_ _ ?_
 clear hz_
 rintro x H1 I1 r1 q1
 obtain⟨a,e,⟨xs,hq⟩,q⟩:=q1
 subst e
 cases r1
 obtain⟨aA,rv,p,hz⟩:=I1.tuple hq
 refine wpAny_pyIter_tuple (show s1.heap.IsTuple a aA.toArray from p) ?_
 refine⟨s1.heap.objs.size,[s1.heap.objs.size],_,_,H1,rfl,I1.kept (t':=s1.toks) fun b o e=>Jb _ e,wC a _,⟨_,Ji _ rfl,rfl,rfl⟩,fun b hb =>?_,q⟩
 have e:b=s1.heap.objs.size:=by simpa using hb
 subst e
 exact I1.eC (Jd _) (I1.bB.fresh (Jd _))
theorem Bc {pins:List (Addr×Obj)}{σ:St}{H:Hp}{s:Shared}{R:It->Hp->Prop}{E:Value->Shared->Prop}{lo hi:Int}{t u v:Tok}{tk:Nat}(I:Inv X pins σ H s)(h1: -(2^62)<=lo)(h2:lo<2^62)(h3: -(2^62)<=hi)(h4:hi<2^62)
  (q:R (JA lo (hi-lo).toNat) H):wpAny (model X.prog X.w) X.A (pyIter (.ref s.heap.objs.size)) (RZ X pins σ tg R) E { s with heap:=s.heap.push { cls := .type "range",data := .fields #[.int lo t,.int hi u,.int 1 v] },toks:=tk }:=by
 refine wpAny_pyIter_range (IsRange.new ..) (small_one h1 h2 h3 h4) ?_
 have I1:Inv X pins σ H { s with heap:=s.heap.push { cls := .type "range",data := .fields #[.int lo t,.int hi u,.int 1 v] },toks:=tk }:=I.kept fun b o e=>Jb _ e
 refine⟨(s.heap.push { cls := .type "range",data := .fields #[.int lo t,.int hi u,.int 1 v] }).objs.size,[(s.heap.push { cls := .type "range",data := .fields #[.int lo t,.int hi u,.int 1 v] }).objs.size],_,_,H,rfl,
  I1.kept (t':=tk) fun b o e=>Jb _ e,wQ _ lo (hi-lo).toNat,?_,fun b hb =>?_,q⟩
 ·have e1:lo+((0:Nat):Int)*1=lo:=by simp
  have e2:(((hi-lo).toNat:Nat):Int)-((0:Nat):Int)=Builtin.Range.rangeSize lo hi 1:=by rw[rangeSize_one];split<;>omega
  show IsRangeIter _ _ (lo+((0:Nat):Int)*1) ((((hi-lo).toNat:Nat):Int)-((0:Nat):Int)) 1
  rw[e1,e2]
  exact Ji _ rfl
 ·have e:b=(s.heap.push { cls := .type "range",data := .fields #[.int lo t,.int hi u,.int 1 v] }).objs.size:=by simpa using hb
  subst e
  exact I1.eC (Jd _) (I1.bB.fresh (Jd _))
def Kx (ta:TA):TI:=fun σ H R=>ta σ H fun vs H1=>∃j:Int,vs=[.int j] /\ -(2^62)<=j/\j<2^62/\R (JA 0 j.toNat) H1
theorem lY {a:Expr}{ta:TA}{p pos:Pos}(hg:Gl X "range")(hm:X.mg "range" = none)(ha:PA X [a] ta)(hs:starEach [a] X.env=[(false,eval a X.env)]:=by rfl):PI X tg (.Call (.Name "range" p) [a] [] pos) (Kx ta):=by
 intro pins s σ H R I h
 refine Call_ (dU I hg hm boot_range (PyProof.Rows.callWith_type1 (bG (ha s σ H _ I h) fun us s1 hz_=>aj.el hz_ _ fun vs H1 I1 r1 q1 =>?_) hs rfl))
 obtain⟨j,e,q1,q2,q⟩:=q1
 subst e
 cases r1 with
 | cons r rr=>
  cases rr
  obtain⟨t,rfl⟩:=r
  exact call_range_1 (Bc I1 (by omega) (by omega) q1 q2 (by simpa using q))
def vH (wi:TI)(g:TG)(tb:TS):TS:=fun D σ H=>wi σ H fun J H1=>∃W:Nat->Nat->St->Hp->Prop,(∃m,W 0 m σ H1)/\∀i m σ H,W i m σ H ->
 (J.stop i H/\D.nx σ H)∨(J.go i H/\∃N:St->Hp->Prop,(∀ σ' H',N σ' H'->∃m',m'<m/\W (i+1) m' σ' H')/\∀x H',J.yld i H x H'->g x σ H' fun σ2 H2=>tb { D with nx:=N,ct:=N,bk:=D.nx } σ2 H2)
noncomputable def gF (fp:List Addr)(h:Heap):List (Addr×Obj):=fp.filterMap fun b=>(h.get? b).map fun o=>(b,o)
theorem eQ {fp:List Addr}{h:Heap}{b:Addr}{o:Obj}(hb:b∈fp)(e:h.get? b=some o):(b,o)∈gF fp h:=List.mem_filterMap.mpr ⟨b,hb,by rw[e];rfl⟩
theorem qg {fp:List Addr}{h:Heap}{p:Addr×Obj}(hp:p∈gF fp h):p.1∈fp/\h.get? p.1=some p.2:=by
 obtain⟨b,hb,e⟩:=List.mem_filterMap.mp hp
 cases q:h.get? b with
 | none=>rw[q] at e;cases e
 | some o=>
  rw[q] at e
  have e':(b,o)=p:=Option.some.inj e
  subst e'
  exact⟨hb,q⟩
theorem Inv.pinned {pins:List (Addr×Obj)}{σ:St}{H:Hp}{s:Shared}{fp:List Addr}(I:Inv X pins σ H s)(hf:∀b∈fp,eu X pins H b)(ho:∀b∈fp,∃o,s.heap.get? b=some o/\∀v,o.data ≠ .cell v):Inv X (pins++gF fp s.heap) σ H s:=
 I.mH fun p hp=>(Us.mp hp).elim (fun z=>I.pin p (Jy _ z)) fun z=>by
  obtain⟨hb,e⟩:=qg z
  obtain⟨f0,f1,f2,_⟩:=hf p.1 hb
  obtain⟨o,e',d⟩:=ho p.1 hb
  rw[e] at e';cases e'
  exact⟨e,f0,f1,f2,d⟩
theorem Inv.fX {pins pl:List (Addr×Obj)}{σ:St}{H:Hp}{s:Shared}(I:Inv X (pins++pl) σ H s):Inv X pins σ H s:=I.mH fun p hp=>I.pin p (Jy _ (Yv _ hp))
theorem ip {iter:Expr}{body:List Stmt}{wi:TI}{g:TG}{tb:TS}{pos:Pos}(hp:PassesOwn (model X.prog X.w) X.A X.env X.xe)(hc:X.calm=true)(hi:PI X tg iter wi)(hg:PG X tg g)(hb:uV X body tb)
  (hs:∀x,foldedSetIterable iter X.env x=pure x:=by intro _;rfl):PS X (.For tg iter body [] pos) (vH wi g tb):=by
 intro pins s σ H D I h
 refine wpAny_For (bG (hi s σ H _ I h) fun v s1 h1=>bG h1 fun MS s2 h2 =>?_) hs
 obtain⟨it,fp,tn,J,H2,e,I2,T,da,f2,W,⟨m0,w0⟩,turn⟩:=h2
 subst e
 have nu:∀{H':Hp},(∀b∈fp,H' b=none)->∀b∈fp,eu X pins H' b:=fun hn b hb=>⟨hn b hb,(f2 b hb).2⟩
 refine codeAny_forLoop_any (fun n s'=>∃i σ' H',Inv X pins σ' H' s'/\tn i s'.heap/\(∀b∈fp,H' b=none)/\W i n σ' H') ?_ m0 ⟨0,σ,H2,I2,da,fun b hb=>(f2 b hb).1,w0⟩
 rintro n s3 ⟨i,σ3,H3,I3,bJ,pC,w3⟩
 rcases turn i n σ3 H3 w3 with ⟨stop,qn⟩|⟨go,N,hN,step⟩
 ·refine wpAny_passesOwn hp (bG (T.done X rfl rfl rfl hc i pins s3 σ3 H3 X.xe I3 (nu pC) bJ stop) fun r s4 hz_ =>?_)
  refine aj.el hz_ _ ?_
  clear hz_
  rintro hr I4
  subst hr
  exact wpAny_execs_nil ⟨σ3,H3,I4,qn⟩
 ·refine wpAny_passesOwn hp (bG (T.item X rfl rfl rfl hc i pins s3 σ3 H3 X.xe I3 (nu pC) bJ go) fun r s4 hz_ =>?_)
  refine aj.el hz_ _ ?_
  clear hz_
  rintro u hr h4
  subst hr
  refine wpAny_passesOwn hp (bG h4 fun _ s5 hz_=>aj.el hz_ _ fun x H5 I5 r5 y5 bX GB =>?_)
  have Ln:=I5.pinned (nu GB) (T.obj _ _ bX)
  refine wpAny_passesOwn hp (bG (hg s5 σ3 H5 x u _ Ln r5 (step x H5 y5)) fun _ s6 hz_ =>?_)
  refine aj.el hz_ _ ?_
  clear hz_
  rintro σ6 H6 I6 q6
  refine wpAny_passesOwn hp (bG (hb s6 σ6 H6 _ I6 q6) fun f s7 q7 =>?_)
  have again:∀{σ7:St} {H7:Hp},Inv X (pins++gF fp s5.heap) σ7 H7 s7->N σ7 H7->∃m,m<n/\∃i σ' H',Inv X pins σ' H' s7/\tn i s7.heap/\(∀b∈fp,H' b=none)/\W i m σ' H':=fun{σ7 H7} I7 n7=>by
   obtain⟨m',hm,w7⟩:=hN σ7 H7 n7
   refine⟨m',hm,i+1,σ7,H7,I7.fX,T.keep _ _ _ bX fun b hb o e=>(I7.pin (b,o) (Jy _ (Jy _ (eQ hb e)))).1,fun b hb =>?_,w7⟩
   obtain⟨o,e,d⟩:=T.obj _ _ bX b hb
   exact(I7.pin (b,o) (Jy _ (Jy _ (eQ hb e)))).2.1
  cases f with
  | next=>obtain⟨σ7,H7,I7,n7⟩:=q7;exact again I7 n7
  | cont=>obtain⟨σ7,H7,I7,n7⟩:=q7;exact again I7 n7
  | brk=>obtain⟨σ7,H7,I7,q7⟩:=q7;exact⟨σ7,H7,I7.fX,q7⟩
  | ret v=>obtain⟨x7,σ7,H7,I7,r7,q7⟩:=q7;exact⟨x7,σ7,H7,I7.fX,r7,q7⟩
end
theorem AY {K:Ja}{a:Addr}{xs:List V}{g:TG}{tb:TS}{D:Ends}{σ:St}{H:Hp}(Pv:Nat->St->Hp->Prop)(h0:Pv 0 σ H)(hl:∀i σ H,i<=xs.length->Pv i σ H->aM K H a xs)
  (hs:∀i x σ H,xs[i]? = some x->Pv i σ H->g x σ H fun σ2 H2=>tb { D with nx:=Pv (i+1),ct:=Pv (i+1),bk:=D.nx } σ2 H2) (hd:∀ σ H,Pv xs.length σ H->D.nx σ H) :
  ∃W:Nat->Nat->St->Hp->Prop,(∃m,W 0 m σ H)/\∀i m σ H,W i m σ H ->
   ((IP K a).stop i H/\D.nx σ H)∨((IP K a).go i H/\∃N:St->Hp->Prop,(∀ σ' H',N σ' H'->∃m',m'<m/\W (i+1) m' σ' H')/\∀x H',(IP K a).yld i H x H'->g x σ H' fun σ2 H2=>tb { D with nx:=N,ct:=N,bk:=D.nx } σ2 H2):=by
 refine⟨fun i m σ H=>m=xs.length-i/\i<=xs.length/\Pv i σ H,⟨xs.length,by simp,Uw _,h0⟩,?_⟩
 rintro i m σ H ⟨rfl,hi,p⟩
 have q:=hl i σ H hi p
 by_cases ji:i<xs.length
 ·refine .inr ⟨⟨xs,xs[i],q,by simp[ji]⟩,Pv (i+1),fun σ' H' p'=>⟨xs.length-(i+1),by omega,rfl,ji,p'⟩,fun x H' y =>?_⟩
  obtain⟨e,y⟩:=y
  subst e
  exact hs i x σ _ (y xs q) p
 ·have e:i=xs.length:=by omega
  subst e
  exact .inl ⟨⟨xs,q,Jd _⟩,hd σ H p⟩
theorem pN {lo:Int}{n:Nat}{g:TG}{tb:TS}{D:Ends}{σ:St}{H:Hp}(Pv:Nat->St->Hp->Prop)(h0:Pv 0 σ H)
  (hs:∀i σ H,i<n->Pv i σ H->g (.int (lo+i)) σ H fun σ2 H2=>tb { D with nx:=Pv (i+1),ct:=Pv (i+1),bk:=D.nx } σ2 H2) (hd:∀ σ H,Pv n σ H->D.nx σ H) :
  ∃W:Nat->Nat->St->Hp->Prop,(∃m,W 0 m σ H)/\∀i m σ H,W i m σ H ->
   ((JA lo n).stop i H/\D.nx σ H)∨((JA lo n).go i H/\∃N:St->Hp->Prop,(∀ σ' H',N σ' H'->∃m',m'<m/\W (i+1) m' σ' H')/\∀x H',(JA lo n).yld i H x H'->g x σ H' fun σ2 H2=>tb { D with nx:=N,ct:=N,bk:=D.nx } σ2 H2):=by
 refine⟨fun i m σ H=>m=n-i/\i<=n/\Pv i σ H,⟨n,by simp,Uw _,h0⟩,?_⟩
 rintro i m σ H ⟨rfl,hi,p⟩
 by_cases ji:i<n
 ·refine .inr ⟨ji,Pv (i+1),fun σ' H' p'=>⟨n-(i+1),by omega,rfl,ji,p'⟩,fun x H' y =>?_⟩
  obtain⟨e,y⟩:=y
  subst e y
  exact hs i σ _ ji p
 ·have e:i=n:=by omega
  subst e
  exact .inl ⟨Jd _,hd σ H p⟩
abbrev R2:=V->V->Hp->VK->Prop
def fL (X:Cx)(f:Value->Value->Sem Value)(r:R2):Prop:=
 ∀ ⦃pins:List (Addr×Obj)⦄ (s:Shared) (σ:St) (H:Hp) (x y:V) (v u:Value) (Q:VK),Inv X pins σ H s->RelV x v->RelV y u->r x y H Q ->
  wpAny (model X.prog X.w) X.A (f v u) (EP X pins σ Q) X.xe s
def Pe (X:Cx)(f:Value->Sem Value)(r:V->Hp->VK->Prop):Prop:=
 ∀ ⦃pins:List (Addr×Obj)⦄ (s:Shared) (σ:St) (H:Hp) (x:V) (v:Value) (Q:VK),Inv X pins σ H s->RelV x v->r x H Q ->
  wpAny (model X.prog X.w) X.A (f v) (EP X pins σ Q) X.xe s
def bN (X:Cx)(f:Value)(r:List V->Hp->VK->Prop):Prop:=
 ∀ ⦃pins:List (Addr×Obj)⦄ (s:Shared) (σ:St) (H:Hp) (xs:List V) (us:List Value) (Q:VK),Inv X pins σ H s->Vals xs us->r xs H Q ->
  wpAny (model X.prog X.w) X.A (call f us) (EP X pins σ Q) X.xe s
def K2 (r:R2)(ta tb:TE):TE:=fun σ H Q=>ta σ H fun x H1=>tb σ H1 fun y H2=>r x y H2 Q
def SA (r:V->Hp->VK->Prop)(ta:TE):TE:=fun σ H Q=>ta σ H fun x H1=>r x H1 Q
def rI (C:Int->Int->Prop)(g:Int->Int->V):R2:=fun x y H Q=>fE fun i j=>x = .int i/\y = .int j/\C i j/\Q (g i j) H
def GJ (g:Int->Int->V):R2:=fun x y H Q=>fE fun i j=>x = .int i/\y = .int j/\Q (g i j) H
def rU (g:Int->V):V->Hp->VK->Prop:=fun x H Q=>∃i,x = .int i/\Q (g i) H
section
variable {X:Cx}{a b c:Expr}{ta tb tc:TE}{pos:Pos}
theorem G0 (ha:PE X a ta)(hb:PE X b tb){pins:List (Addr×Obj)}{s:Shared}{σ:St}{H:Hp}{R:V->V->Hp->Prop}(I:Inv X pins σ H s)
  (h:ta σ H fun x H1=>tb σ H1 fun y H2=>R x y H2) {Q:Value->Shared->Prop} {f:Value->Value->Sem Value}
  (hf:∀v u s2 x y H2,Inv X pins σ H2 s2->RelV x v->RelV y u->R x y H2->wpAny (model X.prog X.w) X.A (f v u) Q X.xe s2) :
  wpAny (model X.prog X.w) X.A (eval a X.env) (fun v s₁=>wpAny (model X.prog X.w) X.A (eval b X.env) (fun u s₂=>wpAny (model X.prog X.w) X.A (f v u) Q X.xe s₂) X.xe s₁) X.xe s:=by
 refine bG (ha s σ H _ I h) fun v s1 hz_ =>?_
 refine aj.el hz_ _ ?_
 clear hz_
 rintro x H1 I1 r1 q1
 refine bG (hb s1 σ H1 _ I1 q1) fun u s2 hz_ =>?_
 refine aj.el hz_ _ ?_
 clear hz_
 rintro y H2 I2 r2 q2
 exact hf v u s2 x y H2 I2 r1 r2 q2
theorem aQ {op:Operator}{r:R2}(ho:fL X (binaryOp op) r)(ha:PE X a ta)(hb:PE X b tb):PE X (.BinOp a op b pos) (K2 r ta tb):=by
 intro pins s σ H Q I h
 exact wpAny_BinOp (G0 ha hb I h fun v u s2 x y H2 I2 rx ry q=>ho s2 σ H2 x y v u Q I2 rx ry q)
theorem AI {op:UnaryOp}{r:V->Hp->VK->Prop}(ho:Pe X (unaryOp op) r)(ha:PE X a ta):PE X (.UnaryOp op a pos) (SA r ta):=by
 intro pins s σ H Q I h
 exact UnaryOp_ (bG (ha s σ H _ I h) fun v s1 hz_=>aj.el hz_ _ fun x H1 I1 r1 q1=>ho s1 σ H1 x v Q I1 r1 q1)
theorem M8 {f:Value->Value->Sem Value}{C:Int->Int->Prop}{g:Int->Int->Int}
  (rule:∀(i j:Int) (t u:Tok) (s:Shared) (Q:Value->Shared->Prop) (E:Value->Shared->Prop),C i j->Q (.int (g i j) s.toks) { s with toks:=s.toks+1 } -> wpAny (model X.prog X.w) X.A (f (.int i t) (.int j u)) Q E s) :
  fL X f (rI C fun i j =>.int (g i j)):=by
 intro pins s σ H x y v u Q I rx ry h
 obtain⟨i,j,rfl,rfl,hc,q⟩:=h
 obtain⟨t,rfl⟩:=rx
 obtain⟨t',rfl⟩:=ry
 exact rule i j t t' s _ _ hc ⟨.int (g i j),H,I.tok _,⟨_,rfl⟩,q⟩
theorem Lx {f:Value->Value->Sem Value}{g:Int->Int->Int}
  (rule:∀(i j:Int) (t u:Tok) (s:Shared) (Q:Value->Shared->Prop) (E:Value->Shared->Prop),Q (.int (g i j) s.toks) { s with toks:=s.toks+1 } -> wpAny (model X.prog X.w) X.A (f (.int i t) (.int j u)) Q E s) :
  fL X f (GJ fun i j =>.int (g i j)):=by
 intro pins s σ H x y v u Q I rx ry h
 obtain⟨i,j,rfl,rfl,q⟩:=h
 obtain⟨t,rfl⟩:=rx
 obtain⟨t',rfl⟩:=ry
 exact rule i j t t' s _ _ ⟨.int (g i j),H,I.tok _,⟨_,rfl⟩,q⟩
theorem GI {f:Value->Value->Sem Value}{g:Int->Int->Bool}
  (rule:∀(i j:Int) (t u:Tok) (s:Shared) (Q:Value->Shared->Prop) (E:Value->Shared->Prop),Q (.bool (g i j)) s->wpAny (model X.prog X.w) X.A (f (.int i t) (.int j u)) Q E s) :
  fL X f (GJ fun i j =>.bl (g i j)):=by
 intro pins s σ H x y v u Q I rx ry h
 obtain⟨i,j,rfl,rfl,q⟩:=h
 obtain⟨t,rfl⟩:=rx
 obtain⟨t',rfl⟩:=ry
 exact rule i j t t' s _ _ ⟨.bl (g i j),H,I,rfl,q⟩
def HQ (i j:Int):Prop:=0<j/\j<1073741824
def QO (i j:Int):Prop:=0<=j/\j<=1000000/\i.natAbs<2^64
def wD (i j:Int):Prop:=(-(2^64)<i/\i<2^64)∨(-(2^64)<j/\j<2^64)
theorem wD.ok {i j:Int}(h:wD i j):IntMulOk i j:=by
 rcases h with ⟨h1,h2⟩|⟨h1,h2⟩
 ·exact .of_left (intBits_le_64 h1 h2)
 ·exact .of_right (intBits_le_64 h1 h2)
theorem HG:fL X (binaryOp .Add) (GJ fun i j =>.int (i+j)):=Lx fun _ _ _ _ _ _ _ q=>add_int q
theorem qM:fL X (binaryOp .Sub) (GJ fun i j =>.int (i-j)):=Lx fun _ _ _ _ _ _ _ q=>sub_int q
theorem Ic:fL X (binaryOp .Mult) (rI wD fun i j =>.int (i*j)):=M8 fun _ _ _ _ _ _ _ hc q=>mul_int q hc.ok
theorem Dh:fL X (binaryOp .FloorDiv) (rI HQ fun i j =>.int (i / j)):=M8 fun i j _ _ _ _ _ hc q=>by
 have h1:(0:Int)<j:=hc.1
 have h2:j<1073741824:=hc.2
 exact floordiv_int (by omega) (by rw[Int.fdiv_eq_ediv_of_nonneg i (by omega)];exact q) (.inl (PyProof.noPylong_small (by omega)))
theorem jK:fL X (binaryOp .Mod) (rI (fun _ j=>0<j) fun i j =>.int (i%j)):=M8 fun i j _ _ _ _ _ hc q=>by
 have h1:(0:Int)<j:=hc
 exact mod_int' (by omega) (by rw[Int.fmod_eq_emod_of_nonneg i (by omega)];exact q)
theorem Bo:fL X (binaryOp .Pow) (rI QO fun i j =>.int (i^j.toNat)):=M8 fun _ _ _ _ _ _ _ hc q=>pow_int_small hc.1 hc.2.1 hc.2.2 q
theorem Tg {f:Value->Sem Value}{g:Int->Int}
  (rule:∀(i:Int) (t:Tok) (s:Shared) (Q:Value->Shared->Prop) (E:Value->Shared->Prop),Q (.int (g i) s.toks) { s with toks:=s.toks+1 } -> wpAny (model X.prog X.w) X.A (f (.int i t)) Q E s) :
  Pe X f (rU fun i =>.int (g i)):=by
 intro pins s σ H x v Q I rx h
 obtain⟨i,rfl,q⟩:=h
 obtain⟨t,rfl⟩:=rx
 exact rule i t s _ _ ⟨.int (g i),H,I.tok _,⟨_,rfl⟩,q⟩
theorem va:Pe X (unaryOp .USub) (rU fun i =>.int (-i)):=Tg fun _ _ _ _ _ q=>neg_int q
end
noncomputable def JW:V->V->Bool
 | .non,.non=>true | .non,.int _=>true | .int _,.non=>true | .non,.bl _=>true | .bl _,.non=>true | .non,.str _=>true | .str _,.non=>true
 | .int _,.int _=>true | .bl _,.bl _=>true | .str _,.str _=>true | .byt _,.byt _=>true
 | .int _,.str _=>true | .str _,.int _=>true | .bl _,.str _=>true | .str _,.bl _=>true
 | _,_=>false
def QK:R2:=fun x y H Q=>JW x y=true/\Q (.bl (decide (x=y))) H
def Pp:R2:=fun x y H Q=>JW x y=true/\Q (.bl (!decide (x=y))) H
theorem xO {i j:Int}:decide (V.int i=V.int j)=(i==j):=by
 rw[Y3]
 simp
theorem CJ {i j:Bool}:decide (V.bl i=V.bl j)=(i==j):=by
 rw[Y3]
 simp
theorem xM {i j:Str}:decide (V.str i=V.str j)=(i==j):=by
 rw[Y3]
 simp
theorem xR {i j:Array UInt8}:decide (V.byt i=V.byt j)=(i.toList==j.toList):=by
 rw[Y3]
 cases i
 cases j
 simp
section
variable {X:Cx}{a b c:Expr}{ta tb tc:TE}{pos:Pos}
theorem bq {pins:List (Addr×Obj)}{σ:St}{H:Hp}{s:Shared}{Q:VK}{k k':Bool}(I:Inv X pins σ H s)(q:Q (.bl k) H)(e:k=k'):EP X pins σ Q (.bool k') s:=by
 subst e
 exact⟨.bl k,H,I,rfl,q⟩
theorem K1:fL X (compareOp .Eq) QK:=by
 intro pins s σ H x y v u Q I rx ry h
 obtain⟨hs,q⟩:=h
 cases x with
 | non=>
  cases rx
  cases y with
  | non=>cases ry;exact PySem.EqNone.eq_none_none (bq I q (by simp))
  | bl j=>cases ry;exact PySem.EqNone.eq_none_bool (bq I q (by simp))
  | int j=>obtain⟨t',rfl⟩:=ry;exact PySem.EqNone.eq_none_int (bq I q (by simp))
  | str j=>obtain⟨t',rfl⟩:=ry;exact PySem.EqNone.eq_none_str (bq I q (by simp))
  | _=>exact absurd (show false=true from hs) Jt
 | bl i=>
  cases rx
  cases y with
  | non=>cases ry;exact PySem.EqNone.eq_bool_none (bq I q (by simp))
  | bl j=>cases ry;exact eq_bool (bq I q CJ)
  | str j=>obtain⟨t',rfl⟩:=ry;exact PySem.EqMixed.eq_bool_str (bq I q (by simp))
  | _=>exact absurd (show false=true from hs) Jt
 | int i=>
  obtain⟨t,rfl⟩:=rx
  cases y with
  | non=>cases ry;exact PySem.EqNone.eq_int_none (bq I q (by simp))
  | int j=>obtain⟨t',rfl⟩:=ry;exact eq_int (bq I q xO)
  | str j=>obtain⟨t',rfl⟩:=ry;exact PySem.EqMixed.eq_int_str (bq I q (by simp))
  | _=>exact absurd (show false=true from hs) Jt
 | str i=>
  obtain⟨t,rfl⟩:=rx
  cases y with
  | non=>cases ry;exact PySem.EqNone.eq_str_none (bq I q (by simp))
  | bl j=>cases ry;exact PySem.EqMixed.eq_str_bool (bq I q (by simp))
  | int j=>obtain⟨t',rfl⟩:=ry;exact PySem.EqMixed.eq_str_int (bq I q (by simp))
  | str j=>obtain⟨t',rfl⟩:=ry;exact eq_str (bq I q xM)
  | _=>exact absurd (show false=true from hs) Jt
 | byt i=>
  obtain⟨t,rfl⟩:=rx
  cases y with
  | byt j=>obtain⟨t',rfl⟩:=ry;exact PySem.W.eq_bytes (bq I q xR)
  | _=>exact absurd (show false=true from hs) Jt
 | _=>cases y<;>exact absurd (show false=true from hs) Jt
theorem Kn:fL X (compareOp .NotEq) Pp:=by
 intro pins s σ H x y v u Q I rx ry h
 obtain⟨hs,q⟩:=h
 cases x with
 | non=>
  cases rx
  cases y with
  | non=>cases ry;exact PySem.EqNone.ne_none_none (bq I q (by simp))
  | bl j=>cases ry;exact PySem.EqNone.ne_none_bool (bq I q (by simp))
  | int j=>obtain⟨t',rfl⟩:=ry;exact PySem.EqNone.ne_none_int (bq I q (by simp))
  | str j=>obtain⟨t',rfl⟩:=ry;exact PySem.EqNone.ne_none_str (bq I q (by simp))
  | _=>exact absurd (show false=true from hs) Jt
 | bl i=>
  cases rx
  cases y with
  | non=>cases ry;exact PySem.EqNone.ne_bool_none (bq I q (by simp))
  | bl j=>cases ry;exact ne_bool (bq I q (congrArg not CJ))
  | str j=>obtain⟨t',rfl⟩:=ry;exact PySem.EqMixed.ne_bool_str (bq I q (by simp))
  | _=>exact absurd (show false=true from hs) Jt
 | int i=>
  obtain⟨t,rfl⟩:=rx
  cases y with
  | non=>cases ry;exact PySem.EqNone.ne_int_none (bq I q (by simp))
  | int j=>obtain⟨t',rfl⟩:=ry;exact ne_int (bq I q (congrArg not xO))
  | str j=>obtain⟨t',rfl⟩:=ry;exact PySem.EqMixed.ne_int_str (bq I q (by simp))
  | _=>exact absurd (show false=true from hs) Jt
 | str i=>
  obtain⟨t,rfl⟩:=rx
  cases y with
  | non=>cases ry;exact PySem.EqNone.ne_str_none (bq I q (by simp))
  | bl j=>cases ry;exact PySem.EqMixed.ne_str_bool (bq I q (by simp))
  | int j=>obtain⟨t',rfl⟩:=ry;exact PySem.EqMixed.ne_str_int (bq I q (by simp))
  | str j=>obtain⟨t',rfl⟩:=ry;exact ne_str (bq I q (congrArg not xM))
  | _=>exact absurd (show false=true from hs) Jt
 | byt i=>
  obtain⟨t,rfl⟩:=rx
  cases y with
  | byt j=>obtain⟨t',rfl⟩:=ry;exact PySem.W.ne_bytes (bq I q (congrArg not xR))
  | _=>exact absurd (show false=true from hs) Jt
 | _=>cases y<;>exact absurd (show false=true from hs) Jt
theorem nC:fL X (compareOp .Lt) (GJ fun i j =>.bl (decide (i<j))):=GI fun _ _ _ _ _ _ _ q=>lt_int q
theorem mY:fL X (compareOp .LtE) (GJ fun i j =>.bl (decide (i<=j))):=GI fun _ _ _ _ _ _ _ q=>le_int q
theorem Kr:fL X (compareOp .GtE) (GJ fun i j =>.bl (decide (j<=i))):=GI fun _ _ _ _ _ _ _ q=>ge_int q
theorem Hu:fL X (compareOp .Is) (fun x y H Q=>y = .non/\Q (.bl (decide (x = .non))) H):=by
 intro pins s σ H x y v u Q I rx ry h
 obtain⟨rfl,q⟩:=h
 cases ry
 refine is_none_gen (bq I q ?_)
 cases x<;>first
  | (cases rx;rfl)
  | (obtain⟨t,rfl⟩:=rx;rfl)
theorem EF:fL X (compareOp .IsNot) (fun x y H Q=>y = .non/\Q (.bl (!decide (x = .non))) H):=by
 intro pins s σ H x y v u Q I rx ry h
 obtain⟨rfl,q⟩:=h
 cases ry
 refine isnot_none_gen (bq I q ?_)
 cases x<;>first
  | (cases rx;rfl)
  | (obtain⟨t,rfl⟩:=rx;rfl)
theorem fL.or {f:Value->Value->Sem Value}{r r':R2}(h:fL X f r)(h':fL X f r'):fL X f (fun x y H Q=>r x y H Q∨r' x y H Q):=by
 intro pins s σ H x y v u Q I rx ry q
 rcases q with q|q
 ·exact h s σ H x y v u Q I rx ry q
 ·exact h' s σ H x y v u Q I rx ry q
theorem aH (b:Expr){op:CmpOp}(h:op ≠ .In:=by decide)(h2:op ≠ .NotIn:=by decide):behindInMarks op b=false:=by
 have e1:(op==CmpOp.In)=false:=by cases op<;>first|rfl|exact absurd rfl h
 have e2:(op==CmpOp.NotIn)=false:=by cases op<;>first|rfl|exact absurd rfl h2
 cases b<;>simp[behindInMarks,e1,e2]
theorem cQ {op:CmpOp}{r:R2}(ho:fL X (compareOp op) r)(ha:PE X a ta)(hb:PE X b tb)(hm:behindInMarks op b=false):PE X (.Compare a [op] [b] pos) (K2 r ta tb):=by
 intro pins s σ H Q I h
 exact wpAny_Compare1 (G0 ha hb I h fun v u s2 x y H2 I2 rx ry q=>ho s2 σ H2 x y v u Q I2 rx ry q) hm
def Fq (t:TE):TT:=fun σ H Q=>t σ H fun x H'=>∃k,x = .bl k/\Q k H'
theorem aK {op:CmpOp}{r:R2}(ho:fL X (compareOp op) r)(ha:PE X a ta)(hb:PE X b tb)(hm:behindInMarks op b=false):PT X (.Compare a [op] [b] pos) (Fq (K2 r ta tb)):=by
 intro pins s σ H Q I h
 refine wpAny_isTrue_Compare1 (bG (ha s σ H _ I h) fun v s1 hz_=>aj.el hz_ _ fun x H1 I1 r1 q1=>bG (hb s1 σ H1 _ I1 q1) fun u s2 ⟨y,H2,I2,r2,q2⟩=>
  bG (ho s2 σ H2 x y v u _ I2 r1 r2 q2) fun c s3 ⟨z,H3,I3,r3,k,e,q3⟩=>?_) hm
 subst e
 cases r3
 exact wpAny_truthy_bool ⟨H3,I3,q3⟩
def C0 (r r':R2)(ta tb tc:TE):TE:=fun σ H Q=>ta σ H fun x H1=>tb σ H1 fun y H2=>r x y H2 fun z H3=>∃k,z = .bl k /\
 (if k=true then tc σ H3 fun w' H4=>r' y w' H4 Q else Q (.bl false) H3)
theorem tN {op HU:CmpOp}{r r':R2}(ho:fL X (compareOp op) r)(xt:fL X (compareOp HU) r')(ha:PE X a ta)(hb:PE X b tb)(hc:PE X c tc)
  (hm:lastMarks [op,HU] [b,c]=false:=by with_unfolding_all rfl):PE X (.Compare a [op,HU] [b,c] pos) (C0 r r' ta tb tc):=by
 intro pins s σ H Q I h
 refine Compare_chain (bG (ha s σ H _ I h) fun v s1 hz_=>aj.el hz_ _ fun x H1 I1 r1 q1=>chain_link (bG (hb s1 σ H1 _ I1 q1) fun u s2 ⟨y,H2,I2,r2,q2⟩=>
  bG (ho s2 σ H2 x y v u _ I2 r1 r2 q2) fun d s3 ⟨z,H3,I3,r3,k,e,q3⟩=>?_)) hm
 subst e
 cases r3
 refine wpAny_truthy_bool ?_
 cases k with
 | false=>exact ite_ff ⟨.bl false,H3,I3,rfl,q3⟩
 | true=>exact ite_tt (chain_last (bG (hc s3 σ H3 _ I3 q3) fun w' s4 hz_=>aj.el hz_ _ fun z' H4 I4 r4 q4=>xt s4 σ H4 y z' u w' Q I4 r2 r4 q4))
theorem uH {op HU:CmpOp}{r r':R2}(ho:fL X (compareOp op) r)(xt:fL X (compareOp HU) r')(ha:PE X a ta)(hb:PE X b tb)(hc:PE X c tc)
  (hm:lastMarks [op,HU] [b,c]=false:=by with_unfolding_all rfl):PT X (.Compare a [op,HU] [b,c] pos) (Fq (C0 r r' ta tb tc)):=by
 intro pins s σ H Q I h
 refine isTrue_chain (bG (ha s σ H _ I h) fun v s1 hz_=>aj.el hz_ _ fun x H1 I1 r1 q1=>test_link (bG (hb s1 σ H1 _ I1 q1) fun u s2 ⟨y,H2,I2,r2,q2⟩=>
  bG (ho s2 σ H2 x y v u _ I2 r1 r2 q2) fun d s3 ⟨z,H3,I3,r3,k,e,q3⟩=>?_)) hm
 subst e
 cases r3
 refine wpAny_truthy_bool ?_
 cases k with
 | false=>
  obtain⟨k',e',q'⟩:=q3
  cases e'
  exact ite_ff ⟨H3,I3,q'⟩
 | true=>
  refine ite_tt (test_last (bG (hc s3 σ H3 _ I3 q3) fun w' s4 hz_=>aj.el hz_ _ fun z' H4 I4 r4 q4=>bG (xt s4 σ H4 y z' u w' _ I4 r2 r4 q4) fun d' s5 hz_ =>?_))
  refine aj.el hz_ _ ?_
  clear hz_
  rintro z2 H5 I5 r5 ⟨k2,e2,q5⟩
  subst e2
  cases r5
  exact wpAny_truthy_bool ⟨H5,I5,q5⟩
theorem lq:(sizeLine:Nat)<2^63:=by rw[sizeLine_eq];decide
theorem wB:fL X (binaryOp .Add) (fun x y H Q=>∃i j,x = .str i/\y = .str j/\i.length+j.length<=sizeLine/\Q (.str (i++j)) H):=by
 intro pins s σ H x y v u Q I rx ry h
 obtain⟨i,j,rfl,rfl,hz,q⟩:=h
 obtain⟨t,rfl⟩:=rx
 obtain⟨t',rfl⟩:=ry
 exact add_str (fun t' tk=>⟨.str (i++j),H,I.tok _,⟨_,rfl⟩,q⟩) hz
theorem vals1 {x:V}{us:List Value}(r:Vals [x] us):∃u,us=[u]/\RelV x u:=by
 cases r with
 | cons r1 r2=>cases r2;exact⟨_,rfl,r1⟩
theorem vals2 {x y:V}{us:List Value}(r:Vals [x,y] us):∃u w',us=[u,w']/\RelV x u/\RelV y w':=by
 cases r with
 | cons r1 r2=>
  cases r2 with
  | cons r3 r4=>cases r4;exact⟨_,_,rfl,r1,r3⟩
def ym (K:Ja)(x:V)(H:Hp)(n:Nat):Prop:=
 match x with
 | .str y=>y.length<=sizeLine/\n=y.length
 | .byt y=>y.size<=sizeLine/\n=y.size
 | .ref p=>(∃xs,aM K H p xs/\n=xs.length)∨∃xs,cE K H p xs/\n=xs.length
 | _=>False
theorem Be:bN X (.builtin "len") (fun xs H Q=>∃x n,xs=[x]/\ym X.K x H n/\Q (.int n) H):=by
 intro pins s σ H xs us Q I r h
 obtain⟨x,n,rfl,e,q⟩:=h
 obtain⟨u,rfl,rx⟩:=vals1 r
 have hl:=lq
 have hs:sizeLine=16777216:=sizeLine_eq
 cases x with
 | str y=>
  obtain⟨t,rfl⟩:=rx
  obtain⟨hy,e'⟩:y.length<=sizeLine/\n=y.length:=e
  subst e'
  exact len_str (by omega) ⟨.int _,H,I.tok _,⟨_,rfl⟩,q⟩
 | byt y=>
  obtain⟨t,rfl⟩:=rx
  obtain⟨hy,e'⟩:y.size<=sizeLine/\n=y.size:=e
  subst e'
  exact PySem.W.len_bytes (by omega) ⟨.int _,H,I.tok _,⟨_,rfl⟩,q⟩
 | ref p=>
  cases rx
  have e':(∃xs,aM X.K H p xs/\n=xs.length)∨∃xs,cE X.K H p xs/\n=xs.length:=e
  rcases e' with ⟨xs,hx,e'⟩|⟨xs,hx,e'⟩
  ·subst e'
   obtain⟨aA,r',pl,hz⟩:=I.list hx
   have hlen:=r'.length
   exact Calls.call_len_list pl.isList (by simp only[Jr];omega) ⟨.int xs.length,H,I.tok _,⟨_,by simp only[Jr];rw[hlen]⟩,q⟩
  ·subst e'
   obtain⟨aA,r',pl,hz⟩:=I.tuple hx
   have hlen:=r'.length
   exact len_tuple pl (by simp only[Jr];omega) ⟨.int xs.length,H,I.tok _,⟨_,by simp only[Jr];rw[hlen]⟩,q⟩
 | _=>exact(show False from e).elim
theorem tZ:bN X (.builtin "divmod") (fun xs H Q=>∃i j,xs=[.int i,.int j]/\HQ i j/\∀p,H p=none->Q (.ref p) (upd H p (.tup [.int (i / j),.int (i%j)]))):=by
 intro pins s σ H xs us Q I r h
 obtain⟨i,j,rfl,⟨h1,h2⟩,q⟩:=h
 obtain⟨u,w',rfl,⟨t,rfl⟩,⟨t',rfl⟩⟩:=vals2 r
 refine divmod_int (by omega) ?_ (.inl (PyProof.noPylong_small (by omega)))
 rw[Int.fdiv_eq_ediv_of_nonneg i (by omega),Int.fmod_eq_emod_of_nonneg i (by omega)]
 have hn:H s.heap.objs.size=none:=I.bB.fresh (Jd _)
 refine⟨.ref s.heap.objs.size,_,?_,rfl,q _ hn⟩
 refine I.laid (fun b o e=>Jb _ e) (Jd _) ⟨by simp only[J0,List.length_nil];rw[sizeLine_eq];decide,[.int (i / j) s.toks,.int (i%j) (s.toks+1)],.cons ⟨_,rfl⟩ (.cons ⟨_,rfl⟩ .nil),?_⟩
 exact⟨_,Ji s.heap rfl,rfl,rfl,0,rfl⟩
end
structure zO (h:Heap)(x dx C:Addr)(mA:Str->Option Value):Prop where
 obj:h.get? x=some (Y2 C dx)
 ns:h.Ns1 dx mA
 ne:dx≠x
theorem pZ {h:Heap}{dx:Addr}{mA:Str->Option Value}(n:h.Ns1 dx mA):∃od,h.get? dx=some od/\∀name,PySem.W.lookIn name od=some (mA name):=by
 obtain⟨o,es,ep,ho,hd,hk,_,hm⟩:=n
 refine⟨o,ho,fun name =>?_⟩
 have e:=hm name
 unfold nsFind findBy at e
 rw[<-Array.find?_toList] at e
 unfold PySem.W.lookIn
 rw[hd]
 dsimp only
 split
 ·rename_i y q
  rw[q] at e
  exact congrArg some e
 ·rename_i q
  rw[q] at e
  have a:es.toList.any (·.refKey)=false:=by
   rw[List.any_eq_false]
   intro y hy
   obtain⟨z,t,hkey⟩:=hk y (Array.mem_toList_iff.mp hy)
   simp[DictEntry.refKey,hkey]
  have a':¬es.toList.any (·.refKey)=true:=by rw[a];exact Jt
  rw[if_neg a']
  exact congrArg some e
theorem zO.look {h:Heap}{x dx C:Addr}{mA:Str->Option Value}(I:zO h x dx C mA):∃od,PySem.W.InstAt h x (Y2 C dx) C (some od)/\∀name,PySem.W.lookIn name od=some (mA name):=
 let ⟨od,ho,hl⟩:=pZ I.ns
 ⟨od,⟨I.obj,rfl,rfl,ho⟩,hl⟩
section
variable {prog:Program}{w:World}{A:Around}{E:Value->Shared->Prop}{s:Shared}{K:Ja}{x dx C f:Addr}{mA:Str->Option Value}{name:Str}{v:Value}
theorem get_map {expr:Bool}{Q:Value->Shared->Prop}(X:K.In s.heap)(I:zO s.heap x dx C mA)(hg:PySem.W.plainGet K C name=true)(hh:PySem.W.hasDictIn K C=true)
  (ha:Ut K (.ref C) name=some none) (hv:mA name=some v) (L9:PySem.W.handedIn v=true) (h:Q v { s with toks:=s.toks+1 }) :
  wpAny (model prog w) A (getAttr (.ref x) name expr) Q E s:=by
 obtain⟨od,J,hl⟩:=I.look
 exact PySem.W.get_value X J (PySem.W.plainGet_of hg).1 (PySem.W.findObj_own hh ha rfl (by rw[hl,hv])) L9 h
theorem Ea {ns:List Str}{Q:Unit->Shared->Prop}(X:K.In s.heap)(I:zO s.heap x dx C mA)
  (hs:Ut K (.ref C) "__setattr__" = some (some (.builtin "object.__setattr__"))) (hp:PySem.W.plainOver K C=true) (ht:PySem.W.takerIn K C name=some none) (hh:PySem.W.hasDictIn K C=true)
  (hw:PySem.Within mA ns) (hsz:ns.length<=sizeLine)
  (h:∀h',zO h' x dx C (fun y=>if y=name then some v else mA y)->U0 dx s.heap h'->Q () { s with heap:=h',toks:=s.toks+2 }) :
  wpAny (model prog w) A (setAttr (.ref x) name v) Q E s:=by
 obtain⟨od,J,hl⟩:=I.look
 refine PySem.W.set_plain X J hs (PySem.W.osa_open (s:={ s with toks:=s.toks+1 }) (r:=none) X J hp ht fun b =>?_)
 obtain⟨cd,hc,qR⟩:=PySem.W.any_some hh
 have hx:s.heap.get? x=some ⟨.ref C,some dx,.plain,#[]⟩:=I.obj
 refine wpAny_bind (wpAny_pure (wpAny_bind (wpAny_bind (wpAny_loadPart hx (wpAny_bind (PySem.W.Looks.here (s:={ s with toks:=s.toks+1 }) (PySem.W.looks_clsIn X hc) ?_))))))
 rw[qR]
 refine wpAny_pure (a:=some dx) (wpAny_bind (wpAny_pure (wpAny_bind ?_)))
 refine wpAny_nsSet1 (s:={ s with toks:=s.toks+1 }) I.ns fun h' Hi uF =>?_
 obtain⟨oD,esD,epD,hoD,hdD,hcD⟩:=Hi.count (PySem.Within.cons name v hw)
 refine wpAny_bind (wpAny_lookBehind hoD (by rw[hdD];exact pastItsLine_dict (Jg hcD (by rw[J0];omega))) ?_)
 exact wpAny_pure (h _ ⟨(uF.2 _ (Ne.symm I.ne)).trans I.obj,Hi,I.ne⟩ uF)
theorem BZ {R:Result->Shared->Prop}{vs:List Value}{kw:List (Str×Value)}(X:K.In s.heap)(hm:PySem.W.makesIn K C=true)
  (hi:Ut K (.ref C) "__init__" = some (some (.ref f))) (hf:PySem.W.typeIn K (.ref f)=some (.type "function"))
  (h:codeAny (model prog w) (A.under (.builtin "type.__call__" ⟨.ref C::vs,kw⟩)) (.call (.ref f) ⟨.ref (s.heap.objs.size+1)::vs,kw⟩) (PySem.W.InitBack (s.heap.objs.size+1) R)
   { s with heap:=(s.heap.push Yp).push (Y2 C s.heap.objs.size) }) :
  codeAny (model prog w) A (.call (.ref C) ⟨vs,kw⟩) R s:=by
 obtain⟨hh,g,d,t,os⟩:=s
 exact PySem.W.make_core (PySem.W.makes_of X hm) (PySem.W.looks_findIn X hi) (fun self=>PySem.W.bind_fn X self hf) (.inl rfl) h
end
noncomputable def jx (f:Str)(v:V):List (Str×V)->List (Str×V)
 | []=>[(f,v)]
 | (g,x)::r=>if g=f then (g,v)::r else (g,x)::jx f v r
theorem md (f g:Str)(v:V):∀fs:List (Str×V),(jx f v fs).lookup g=if g=f then some v else fs.lookup g
 | []=>by
  show Y8 g [(f,v)]=_
  by_cases h:g=f
  ·have hb:(g==f)=true:=beq_iff_eq.mpr h
   simp only[Y8,hb,if_pos h]
  ·have hb:(g==f)=false:=beq_eq_false_iff_ne.mpr h
   simp only[Y8,hb,if_neg h]
 | (k,x)::r=>by
  have ih:=md f g v r
  rw[show jx f v ((k,x)::r)=(if k=f then (k,v)::r else (k,x)::jx f v r) from rfl]
  by_cases hk:k=f
  ·rw[if_pos hk]
   by_cases h:g=k
   ·have hb:(g==k)=true:=beq_iff_eq.mpr h
    simp only[Y8,hb,if_pos (h.trans hk)]
   ·have hb:(g==k)=false:=beq_eq_false_iff_ne.mpr h
    simp only[Y8,hb,if_neg (fun e:g=f=>h (e.trans hk.symm))]
  ·rw[if_neg hk]
   by_cases h:g=k
   ·have hb:(g==k)=true:=beq_iff_eq.mpr h
    simp only[Y8,hb,if_neg (fun e:g=f=>hk (h.symm.trans e))]
   ·have hb:(g==k)=false:=beq_eq_false_iff_ne.mpr h
    simp only[Y8,hb]
    exact ih
theorem lX (f:Str)(v:V):∀fs:List (Str×V),f∈(jx f v fs).map (·.1)/\∀g,g∈fs.map (·.1)->g∈(jx f v fs).map (·.1)
 | []=>⟨by simp[jx],fun g h=>by simp at h⟩
 | (k,x)::r=>by
  obtain⟨i1,i2⟩:=lX f v r
  rw[show jx f v ((k,x)::r)=(if k=f then (k,v)::r else (k,x)::jx f v r) from rfl]
  by_cases hk:k=f
  ·rw[if_pos hk]
   subst hk
   exact⟨by simp,fun g h=>by simpa using h⟩
  ·rw[if_neg hk]
   refine⟨?_,fun g h =>?_⟩
   ·rw[Ub]
    exact Jo _ i1
   ·rw[Ub] at h ⊢
    rcases Jm.mp h with e|e
    ·exact Jm.mpr (.inl e)
    ·exact Jo _ (i2 g e)
theorem mn (f:Str)(v:V):∀fs:List (Str×V),(jx f v fs).length<=fs.length+1
 | []=>by simp[jx]
 | (k,x)::r=>by
  have ih:=mn f v r
  rw[show jx f v ((k,x)::r)=(if k=f then (k,v)::r else (k,x)::jx f v r) from rfl]
  by_cases hk:k=f
  ·rw[if_pos hk,J0,J0];omega
  ·rw[if_neg hk,J0,J0];omega
theorem kC.some_of {v:V}{o:Option Value}(r:kC (some v) o):∃u,o=some u/\RelV v u:=by
 cases o with
 | none=>exact(show False from r).elim
 | some u=>exact⟨u,rfl,r⟩
theorem zd {v:V}{u:Value}(r:RelV v u):PySem.W.handedIn u=true:=by
 cases v with
 | non=>cases (show u=Value.none from r);rfl
 | bl b=>cases (show u=Value.bool b from r);rfl
 | int i=>obtain⟨t,e⟩:=(show ∃t,u=Value.int i t from r);cases e;rfl
 | str x=>obtain⟨t,e⟩:=(show ∃t,u=Value.str x t from r);cases e;rfl
 | byt b=>obtain⟨t,e⟩:=(show ∃t,u=Value.bytes b t from r);cases e;rfl
 | flt b=>obtain⟨t,e⟩:=(show ∃t,u=Value.float b t from r);cases e;rfl
 | ref a=>cases (show u=Value.ref a from r);rfl
 | ty n=>cases (show u=Value.type n from r);rfl
section
variable {P:Program}{w:World}{H H':Hp}{h h':Heap}{a C dx:Addr}{fs UU:List (Str×V)}
theorem qH (bB:hZ P w H h)(e:H a=some (.ins C dx fs)):∃mA,zO h a dx C mA/\(∀f,kC (fs.lookup f) (mA f))/\PySem.Within mA (fs.map (·.1))/\fs.length<=1000/\H dx=some (.own a):=by
 obtain⟨d,z,ne,ob,mA,n,r,q⟩:=(show bt P w H h a (.ins C dx fs) from bB a _ e)
 exact⟨mA,⟨ob,n,ne⟩,r,q,z,d⟩
end
structure Ga (K:Ja)(C:Addr):Prop where
 pg:PySem.W.plainGet K C Str.empty=true
 hd:PySem.W.hasDictIn K C=true
 po:PySem.W.plainOver K C=true
 sa:Ut K (.ref C) "__setattr__" = some (some (.builtin "object.__setattr__"))
theorem Ga.get {K:Ja}{C:Addr}(c:Ga K C)(f:Str):PySem.W.plainGet K C f=true:=c.pg
def fW (K:Ja)(C:Addr)(f:Str):Prop:=Ut K (.ref C) f=some none
theorem fW.Mg {K:Ja}{C:Addr}{f:Str}(n:fW K C f):PySem.W.takerIn K C f=some none:=by
 unfold PySem.W.takerIn
 rw[show Ut K (.ref C) f=some none from n]
 rfl
section
variable {X:Cx}{pins:List (Addr×Obj)}{σ:St}{H:Hp}{s:Shared}{a C dx:Addr}{fs:List (Str×V)}{f:Str}{v:V}{A:Around}{E:Value->Shared->Prop}
theorem vn {b:Bool}{Q:Value->Shared->Prop}(I:Inv X pins σ H s)(e:H a=some (.ins C dx fs))(c:Ga X.K C)(n:fW X.K C f)(l:fs.lookup f=some v)
  (h:∀u s',Inv X pins σ H s'->RelV v u->Q u s'):wpAny (model X.prog X.w) A (getAttr (.ref a) f b) Q E s:=by
 obtain⟨mA,O,r,_,_,_⟩:=qH I.bB e
 obtain⟨u,hu,ru⟩:=kC.some_of (v:=v) (o:=mA f) (by rw[<-l];exact r f)
 exact get_map I.iA O (c.get f) c.hd n hu (zd ru) (h u _ (I.tok _) ru)
theorem vv {y:V}{u:Value}{Q:Unit->Shared->Prop}(I:Inv X pins σ H s)(e:H a=some (.ins C dx fs))(c:Ga X.K C)(n:fW X.K C f)(hl:fs.length<1000)(ry:RelV y u)
  (h:∀s',Inv X pins σ (upd H a (.ins C dx (jx f y fs))) s'->Q () s'):wpAny (model X.prog X.w) A (setAttr (.ref a) f u) Q E s:=by
 obtain⟨mA,O,r,wi,_,ho⟩:=qH I.bB e
 have hz:(fs.map (·.1)).length<=sizeLine:=by rw[Je,sizeLine_eq];omega
 refine Ea I.iA O c.sa c.po n.Mg c.hd wi hz fun h' O' sb=>h _ ?_
 have hd:∃o,h'.get? dx=some o:=let ⟨o,_,_,e',_⟩:=O'.ns; ⟨o,e'⟩
 refine I.write (x:=a) (e:=dx) (by rw[e];exact True.intro) (.inr ho) (fun b q hb z=>(sb.2 b hb).trans z) hd ?_
 refine⟨by rw[ao O.ne];exact ho,?_,O.ne,O'.obj,_,O'.ns,fun g =>?_,fun g hg =>?_⟩
 ·have:=mn f y fs;omega
 ·show kC ((jx f y fs).lookup g) (if g=f then some u else mA g)
  rw[md]
  by_cases q:g=f
  ·rw[if_pos q,if_pos q];exact ry
  ·rw[if_neg q,if_neg q];exact r g
 ·by_cases q:g=f
  ·rw[q];exact(lX f y fs).1
  ·refine(lX f y fs).2 g (wi g fun z=>hg ?_)
   show(if g=f then some u else mA g)=none
   rw[if_neg q];exact z
theorem Inv.made (I:Inv X pins σ H s):Inv X pins σ (upd (upd H s.heap.objs.size (.own (s.heap.objs.size+1))) (s.heap.objs.size+1) (.ins C s.heap.objs.size []))
  { s with heap:=(s.heap.push Yp).push (Y2 C s.heap.objs.size) }:=by
 have e1:(s.heap.push Yp).get? s.heap.objs.size=some Yp:=Ji s.heap rfl
 have e2:((s.heap.push Yp).push (Y2 C s.heap.objs.size)).get? (s.heap.objs.size+1)=some (Y2 C s.heap.objs.size):=by
  have:=Ji (s.heap.push Yp) (o:=Y2 C s.heap.objs.size) rfl
  rwa[J2] at this
 have e3:(s.heap.push Yp).Ns s.heap.objs.size (fun _=>none):=⟨Yp,#[],_,e1,rfl,(fun e he=>absurd he (by simp)),fun _=>rfl⟩
 have I1:=I.laid (a:=s.heap.objs.size) (o := .own (s.heap.objs.size+1)) (h':=s.heap.push Yp) (t':=s.toks) (fun b u q=>Jb _ q) (Jd _) ⟨_,e1⟩
 refine I1.laid (a:=s.heap.objs.size+1) (o := .ins C s.heap.objs.size []) (t':=s.toks) (fun b u q=>Jb _ q) (Nat.le_of_eq (J2 _ _)) ?_
 have ne:s.heap.objs.size≠s.heap.objs.size+1:=Jk (Nat.lt_succ_self _)
 refine⟨by rw[ao ne,aq],Uw _,ne,e2,fun _=>none,(Heap.Ns1.of_empty e3).at fun o q=>Jb _ q,fun _=>True.intro,fun y hy=>absurd rfl hy⟩
theorem ye {prog:Program}{w:World}{env:Env}{e:Expr}{f:Str}{pos:Pos}{s:Shared}{Q:Value->Shared->Prop}(hb:attributeBase e f env (eval e env)=eval e env)
  (h:wpAny (model prog w) A (eval e env) (fun o s₁=>wpAny (model prog w) A (getAttr o f true) Q E s₁) E s):wpAny (model prog w) A (eval (.Attribute e f pos) env) Q E s:=
 Attribute_any_ h (by rw[arm_eval_Attribute,hb])
end
def KQ (K:Ja)(ta:TE)(f:Str):TE:=fun σ H Q=>ta σ H fun x H1=>uR fun a C dx fs v=>x = .ref a/\H1 a=some (.ins C dx fs)/\Ga K C/\fW K C f/\fs.lookup f=some v/\Q v H1
def JV (K:Ja)(ta tv:TE)(f:Str):TS:=fun D σ H=>tv σ H fun y H1=>ta σ H1 fun x H2=>rX fun a C dx fs=>x = .ref a/\H2 a=some (.ins C dx fs)/\Ga K C/\fW K C f/\fs.length<1000 /\
 D.nx σ (upd H2 a (.ins C dx (jx f y fs)))
section
variable {X:Cx}{o e value:Expr}{f:Str}{pos pos' PV:Pos}{ta tv:TE}
theorem Gb (he:PE X e ta)(hb:attributeBase e f X.env (eval e X.env)=eval e X.env):PE X (.Attribute e f pos) (KQ X.K ta f):=by
 intro pins s σ H Q I h
 refine ye hb (bG (he s σ H _ I h) fun u s1 hz_ =>?_)
 refine aj.el hz_ _ ?_
 clear hz_
 rintro x H1 I1 rx ⟨a,C,dx,fs,v,ex,ea,c,n,l,q⟩
 subst ex
 obtain rfl:u=Value.ref a:=rx
 exact vn I1 ea c n l fun u' s2 I2 ru=>⟨v,H1,I2,ru,q⟩
theorem nY (ha:PE X o ta)(hv:PE X value tv)(hs:swapsWith value (some (.Attribute o f pos')) pos.line X.env=pure false):PS X (.Assign [.Attribute o f pos'] value pos) (JV X.K ta tv f):=by
 intro pins s σ H D I h
 refine plainObj_wpAny_Assign_Attribute (bG (hv s σ H _ I h) fun u s1 ⟨y,H1,I1,ry,q⟩=>bG (ha s1 σ H1 _ I1 q) fun ov s2 ⟨x,H2,I2,rx,a,C,dx,fs,ex,ea,c,n,l,q2⟩=>?_) hs
 subst ex
 obtain rfl:ov=Value.ref a:=rx
 exact vv I2 ea c n l ry fun s3 I3=>⟨σ,_,I3,q2⟩
end
section
variable {X:Cx}{pins:List (Addr×Obj)}{σ:St}{H:Hp}{s:Shared}{A:Around}{E:Value->Shared->Prop}{Q:Value->Shared->Prop}{c:Value}{b:Bool}
inductive kH (K:Ja)(H:Hp):V->Value->Prop where
 | non:kH K H .non (.type "NoneType")
 | bl (x:Bool):kH K H (.bl x) (.type "bool")
 | int (i:Int):kH K H (.int i) (.type "int")
 | str (x:Str):kH K H (.str x) (.type "str")
 | flt (x:UInt64):kH K H (.flt x) (.type "float")
 | lst {a:Addr} {xs:List V} (e:H a=some (.lst xs)):kH K H (.ref a) (.type "list")
 | frz {a:Addr} {o:Obj} {xs:List V} (e:H a=some (.frz o (.lst xs))):kH K H (.ref a) (.type "list")
 | tup {a:Addr} {xs:List V} (e:H a=some (.tup xs)):kH K H (.ref a) (.type "tuple")
 | dK {a:Addr} {kvs:List (Key×V)} (e:H a=some (.dK kvs)):kH K H (.ref a) (.type "dict")
 | dT {a:Addr} {kvs:List (List Key×V)} (e:H a=some (.dT kvs)):kH K H (.ref a) (.type "dict")
 | ins {a C dx:Addr} {fs:List (Str×V)} (e:H a=some (.ins C dx fs)) (cl:Ga K C) (ha:Ut K (.ref C) "__class__" = some (some (.builtin "object.__class__")))
   (hn:PySem.W.specialIn K (.builtin "object.__class__") "__get__" = some (some (.builtin "getset_descriptor.__get__"))) (RL:PySem.W.takesIn K (.builtin "object.__class__")=some true)
   (hm:PySem.W.mroIn K C (.type "object")=some true):kH K H (.ref a) (.ref C)
theorem zG {x:V}{u t:Value}(I:Inv X pins σ H s)(rx:RelV x u)(ty:kH X.K H x t)(e:Uh X.K t c=some b)(h:∀tk,Q (.bool b) { s with toks:=tk }):
  wpAny (model X.prog X.w) A (call (.builtin "isinstance") [u,c]) Q E s:=by
 cases ty with
 | non=>cases (show u=Value.none from rx);exact Yd PySem.W.kitx_none I.iA True.intro e (fun z=>nomatch z) h
 | bl y=>cases (show u=Value.bool y from rx);exact Yd PySem.W.kitx_bool I.iA True.intro e (fun z=>nomatch z) h
 | int i=>obtain⟨t,q⟩:=(show ∃t,u=Value.int i t from rx);cases q;exact Yd PySem.W.kitx_int I.iA True.intro e (fun z=>nomatch z) h
 | str y=>obtain⟨t,q⟩:=(show ∃t,u=Value.str y t from rx);cases q;exact Yd PySem.W.kitx_str I.iA True.intro e (fun z=>nomatch z) h
 | flt y=>obtain⟨t,q⟩:=(show ∃t,u=Value.float y t from rx);cases q;exact Yd PySem.W.kitx_float I.iA True.intro e (fun z=>nomatch z) h
 | @lst a xs ea=>
  cases (show u=Value.ref a from rx)
  obtain⟨_,_,n,_,h1⟩:=(show bt X.prog X.w H s.heap a (.lst xs) from I.bB a _ ea)
  exact Yd PySem.W.kitx_list I.iA ⟨_,h1,rfl⟩ e (fun z=>nomatch z) h
 | @frz a ob xs ea=>
  cases (show u=Value.ref a from rx)
  obtain⟨_,_,_,n,_,h1⟩:=(show bt X.prog X.w H s.heap a (.frz ob (.lst xs)) from I.bB a _ ea)
  exact Yd PySem.W.kitx_list I.iA ⟨_,h1,rfl⟩ e (fun z=>nomatch z) h
 | @tup a xs ea=>
  cases (show u=Value.ref a from rx)
  obtain⟨_,_,_,p⟩:=(show bt X.prog X.w H s.heap a (.tup xs) from I.bB a _ ea)
  obtain⟨o,h1,_,h2,_⟩:=p
  exact Yd PySem.W.kitx_tuple I.iA ⟨o,h1,h2⟩ e (fun z=>nomatch z) h
 | @dK a kvs ea=>
  cases (show u=Value.ref a from rx)
  obtain⟨_,_,vs,_,p⟩:=(show bt X.prog X.w H s.heap a (.dK kvs) from I.bB a _ ea)
  obtain⟨o,es,ep,h1,h2,_⟩:=p
  exact Yd PySem.W.kitx_dict I.iA ⟨o,h1,h2.1⟩ e (fun z=>nomatch z) h
 | @dT a kvs ea=>
  cases (show u=Value.ref a from rx)
  obtain⟨_,_,xs,_,o,es,ep,h1,h2,_⟩:=(show bt X.prog X.w H s.heap a (.dT kvs) from I.bB a _ ea)
  exact Yd PySem.W.kitx_dict I.iA ⟨o,h1,h2.1⟩ e (fun z=>nomatch z) h
 | @ins a C dx fs ea cl ha hn RL hm=>
  cases (show u=Value.ref a from rx)
  obtain⟨mA,O,_⟩:=qH I.bB ea
  obtain⟨od,J,_⟩:=O.look
  exact Yd (PySem.W.kitx_own (cl.get _) cl.hd ha hn RL hm) I.iA J e (fun z=>nomatch z) h
end
structure dw (k:Nat)(A:Around):Prop where
 hd:A.handled=none
 dp:A.depth+3*k+5<recursionLimit
 un:A.units+16*k+200<cLine
 gd:A.guards=some []
theorem dw.mono {j k:Nat}{A:Around}(r:dw k A)(h:j<=k):dw j A:=⟨r.hd,by have:=r.dp;omega,by have:=r.un;omega,r.gd⟩
theorem dw.deeper {k:Nat}{A:Around}(r:dw (k+1) A)(env:Env):dw k (A.deeper env):=
 ⟨r.hd,by have:=r.dp;show A.depth+1+3*k+5<_;omega,by have:=r.un;show A.units+3+16*k+200<_;omega,r.gd⟩
theorem vW {A:Around}{C:Addr}{us:List Value}{kw:List (Str×Value)}:(A.under (.builtin "type.__call__" ⟨.ref C::us,kw⟩)).depth=A.depth+1:=by
 first|rfl|simp[Around.under,Code.weight,Code.isCreation,Code.isGuard,Code.isCaller,Code.frames,Code.isFrame,guardIds]
theorem vV {A:Around}{C:Addr}{us:List Value}{kw:List (Str×Value)}:(A.under (.builtin "type.__call__" ⟨.ref C::us,kw⟩)).units=A.units+1:=by
 first|rfl|simp[Around.under,Code.cUnits,Code.frames,Code.isFrame]
theorem tL {A:Around}{C:Addr}{us:List Value}{kw:List (Str×Value)}:(A.under (.builtin "type.__call__" ⟨.ref C::us,kw⟩)).guards=A.guards:=by
 first|rfl|simp[Around.under,Code.guards,Code.isGuard,guardIds,pushGuards]
theorem dw.make {k:Nat}{A:Around}(r:dw (k+1) A)(C:Addr)(us:List Value)(kw:List (Str×Value)):dw k (A.under (.builtin "type.__call__" ⟨.ref C::us,kw⟩)):=
 ⟨r.hd,by have:=r.dp;rw[vW];omega,by have:=r.un;rw[vV];omega,by rw[tL];exact r.gd⟩
theorem dw.depth {k:Nat}{A:Around}(r:dw k A):A.depth<recursionLimit:=by have:=r.dp;omega
theorem dw.units {k:Nat}{A:Around}(r:dw k A):A.units+64<cLine:=by have:=r.un;omega
noncomputable def Ae:TA:=fun _ H Q=>Q [] H
noncomputable def uM (ta:TE)(tr:TA):TA:=fun σ H Q=>ta σ H fun x H1=>tr σ H1 fun xs H2=>Q (x::xs) H2
section
variable {X:Cx}{e:Expr}{es:List Expr}{te:TE}{t:TA}{pos:Pos}
theorem ae:PA X [] Ae:=fun _ _ _ _ H Q I h=>Calls.spliced_nil ⟨[],H,I,.nil,h⟩
theorem aa (ha:PE X e te)(hr:PA X es t)(hs:starEach (e::es) X.env=(false,eval e X.env)::starEach es X.env:=by rfl):PA X (e::es) (uM te t):=by
 intro pos pins s σ H Q I h
 rw[hs]
 show wpAny _ _ (spliced ((false,eval e X.env)::backTo pos (starEach es X.env))) _ _ s
 refine Calls.spliced_cons (bG (ha s σ H _ I h) fun u s1 hz_ =>?_)
 refine aj.el hz_ _ ?_
 clear hz_
 rintro x H1 I1 r1 q1
 exact bG (hr s1 σ H1 _ I1 q1) fun us s2 hz_=>aj.el hz_ _ fun xs H2 I2 r2 q2=>⟨x::xs,H2,I2,.cons r1 r2,q2⟩
def L8 (t:TA):TE:=fun σ H Q=>t σ H fun xs H1=>xs.length<=sizeLine/\∀p,H1 p=none->Q (.ref p) (upd H1 p (.tup xs))
def Ly (t:TA):TE:=fun σ H Q=>t σ H fun xs H1=>xs.length<=sizeLine/\∀p,H1 p=none->Q (.ref p) (upd H1 p (.lst xs))
theorem BH {x1}(h:PA X es t):PE X (.Tuple es x1 pos) (L8 t):=by
 intro pins s σ H Q I hq
 refine wpAny_Tuple_spliced (bG (h s σ H _ I hq) fun us s1 ⟨xs,H1,I1,r,z,q⟩=>⟨by rw[<-r.length];exact z,?_⟩)
 have hf:H1 s1.heap.objs.size=none:=I1.bB.fresh (Jd _)
 refine⟨.ref s1.heap.objs.size,upd H1 s1.heap.objs.size (.tup xs),I1.laid (t':=s1.toks) (fun b u e=>Jb _ e) (Jd _) ?_,rfl,q _ hf⟩
 exact⟨z,us,r,⟨_,Ji _ rfl,rfl,rfl,_,rfl⟩⟩
theorem IK (h:PA X es t):PE X (.List es pos) (Ly t):=by
 intro pins s σ H Q I hq
 refine wpAny_List_spliced (bG (h s σ H _ I hq) fun us s1 ⟨xs,H1,I1,r,z,q⟩=>⟨by rw[<-r.length];exact z,?_⟩)
 have hf:H1 s1.heap.objs.size=none:=I1.bB.fresh (Jd _)
 refine⟨.ref s1.heap.objs.size,upd H1 s1.heap.objs.size (.lst xs),I1.laid (t':=s1.toks) (fun b u e=>Jb _ e) (Jd _) ?_,rfl,q _ hf⟩
 exact⟨z,us,0,r,Ji _ rfl⟩
end
abbrev Sp:=List V->Hp->VK->XK->Prop
abbrev yV:=List Env->Hp->Shared->XK->Value->Shared->Prop
structure wA (P:Program)(w:World)(K:Ja)(mg:Str->Option Value)(base:Heap)(A:Around)(outer:List Env)(s:Shared)(H:Hp):Prop where
 frames:A.frames=some outer
 mod:Mod K mg base
 bs:∀b o,base.get? b=some o->s.heap.get? b=some o/\H b=none
 bsz:base.objs.size<=s.heap.objs.size
 jv:s.heap.FunFrames base outer
 frf:∀b∈fK outer,H b=none
 bB:hZ P w H s.heap
 bare:AllBare s.gens
def CE (outer:List Env)(P:Program)(w:World)(H:Hp)(s:Shared)(Q:VK)(u:Value)(s':Shared):Prop:=
 fE fun v H'=>s'.os=s.os/\AllBare s'.gens/\Un (fK outer) [] H H' s.heap s'.heap/\hZ P w H' s'.heap/\RelV v u/\Q v H'
def CR (CX:yV)(outer:List Env)(P:Program)(w:World)(H:Hp)(s:Shared)(Q:VK)(E:XK)(r:Result)(s':Shared):Prop:=
 match r with
 | .ok (.ret u)=>CE outer P w H s Q u s'
 | .ok _=>False
 | .error e=>CX outer H s E e s'
structure bC (P:Program)(w:World)(K:Ja)(mg:Str->Option Value)(base:Heap)(CX:yV)(k:Nat)(f:Addr)(fd:FuncData)(ps:List Str)(sp:Sp):Prop where
 len:∀vs H Q E,sp vs H Q E->vs.length=ps.length
 run:∀(A:Around) (outer:List Env) (s:Shared) (H:Hp) (args:Args) (us:List Value) (vs:List V) (Q:VK) (E:XK),dw k A->wA P w K mg base A outer s H->BindsTo s fd args (ps.zip us)->Vals vs us->sp vs H Q E ->
  codeAny (model P w) A (.call (.ref f) args) (CR CX outer P w H s Q E) s
theorem bC.mono {P:Program}{w:World}{K:Ja}{mg:Str->Option Value}{base:Heap}{CX:yV}{j k:Nat}{f:Addr}{fd:FuncData}{ps:List Str}{sp:Sp}(F:bC P w K mg base CX j f fd ps sp)(h:j<=k):
  bC P w K mg base CX k f fd ps sp:=⟨F.len,fun A outer s H args us vs Q E hr=>F.run A outer s H args us vs Q E (hr.mono h)⟩
theorem bC.imp {P:Program}{w:World}{K:Ja}{mg:Str->Option Value}{base:Heap}{CX:yV}{k:Nat}{f:Addr}{fd:FuncData}{ps:List Str}{sp FI:Sp}(F:bC P w K mg base CX k f fd ps sp)
  (h:∀vs H Q E,FI vs H Q E->sp vs H Q E):bC P w K mg base CX k f fd ps FI:=
 ⟨fun vs H Q E q=>F.len vs H Q E (h _ _ _ _ q),fun A outer s H args us vs Q E hr he hb hv hs=>F.run A outer s H args us vs Q E hr he hb hv (h _ _ _ _ hs)⟩
theorem wA.make {P:Program}{w:World}{K:Ja}{mg:Str->Option Value}{base:Heap}{A:Around}{outer:List Env}{s:Shared}{H:Hp}(e:wA P w K mg base A outer s H)(C:Addr)(us:List Value)(kw:List (Str×Value)):
  wA P w K mg base (A.under (.builtin "type.__call__" ⟨.ref C::us,kw⟩)) outer s H:=⟨by first|exact e.frames|(simpa [Around.under,Code.envs,Code.isFrame,pushEnvs] using e.frames),e.mod,e.bs,e.bsz,e.jv,e.frf,e.bB,e.bare⟩
section
variable {X:Cx}{pins:List (Addr×Obj)}{σ:St}{H:Hp}{s s':Shared}
theorem Inv.Eo (I:Inv X pins σ H s):wA X.prog X.w X.K X.mg X.base X.A X.stack s H:=
 ⟨I.ok.frames,I.ok.mod,I.bs,Jg I.ok.bsz I.sz,I.stack,I.rS,I.bB,I.bare⟩
theorem Inv.after {Q:VK}{u:Value}(I:Inv X pins σ H s)(h:CE X.stack X.prog X.w H s Q u s'):EP X pins σ Q u s':=by
 obtain⟨v,H',os,bare,un,bB,r,q⟩:=h
 obtain⟨hh,g,d,t,os'⟩:=s'
 obtain rfl:os'=s.os:=os
 exact⟨v,H',I.call (h':=hh) (g':=g) (d':=d) (t':=t) (ch:=[]) un bB bare (fun b z=>absurd z (by simp)),r,q⟩
end
def sV (sp:Sp)(tF:List V)(E:XK)(t:TA):TE:=fun σ H Q=>t σ H fun vs H1=>sp (vs++tF) H1 Q E
def Kc (C:Addr)(sp:Sp)(tF:List V)(E:XK)(t:TA):TE:=fun σ H Q=>t σ H fun vs H1=>∀x dx,H1 x=none->H1 dx=none->dx≠x ->
 sp (.ref x::(vs++tF)) (upd (upd H1 dx (.own x)) x (.ins C dx [])) (fun v H2=>v = .non/\Q (.ref x) H2) E
def Binds (K:Ja)(fd:FuncData)(ps:List Str)(ds:List Value):Prop:=
 ∀(s:Shared) (us:List Value),K.In s.heap->(us++ds).length=ps.length->BindsTo s fd ⟨us,[]⟩ (ps.zip (us++ds))
theorem Binds.all {K:Ja}{fd:FuncData}{ps:List Str}(h:∀us:List Value,us.length=ps.length->bindArgs fd ⟨us,[]⟩=pure (ps.zip us)):Binds K fd ps []:=fun s us _ hl=>by
 rw[Yg] at hl ⊢
 exact .of_eq (h us hl)
def Passes (CX:yV)(X:Cx)(E:XK):Prop:=∀(pins:List (Addr×Obj)) (σ:St) (H:Hp) (s:Shared) (e:Value) (s':Shared),Inv X pins σ H s->CX X.stack H s E e s'->X.xe e s'
section
variable {X:Cx}{CX:yV}{k:Nat}{f C:Addr}{fd:FuncData}{ps:List Str}{sp:Sp}{tF:List V}{ds:List Value}{E:XK}{x m:Str}{p pos apos:Pos}{e o:Expr}{es:List Expr}{ta:TE}{t:TA}
theorem Bq {pins:List (Addr×Obj)}{σ:St}{H:Hp}{s:Shared}{Q:VK}{us:List Value}{vs:List V}(F:bC X.prog X.w X.K X.mg X.base CX k f fd ps sp)(hr:dw k X.A)(hb:Binds X.K fd ps ds)(hd:Vals tF ds)(hx:Passes CX X E)
  (I:Inv X pins σ H s) (r:Vals vs us) (h:sp (vs++tF) H Q E):wpAny (model X.prog X.w) X.A (call (.ref f) us) (EP X pins σ Q) X.xe s:=by
 have r2:Vals (vs++tF) (us++ds):=r.append hd
 have hl:(us++ds).length=ps.length:=by rw[<-r2.length];exact F.len _ _ _ _ h
 refine wpAny_call (codeAny_mono (F.run X.A X.stack s H ⟨us,[]⟩ (us++ds) (vs++tF) Q E hr I.Eo (hb s us I.iA hl) r2 h) fun r s' hq =>?_)
 cases r with
 | error e=>exact hx pins σ H s e s' I hq
 | ok fl=>
  cases fl with
  | ret u=>exact I.after hq
  | next=>exact False.elim hq
  | brk=>exact False.elim hq
  | cont=>exact False.elim hq
theorem ER (F:bC X.prog X.w X.K X.mg X.base CX k f fd ps sp)(hr:dw k X.A)(hg:Gl X x)(hm:X.mg x=some (.ref f))(hk:Ye X.K (.ref f)=true)(hb:Binds X.K fd ps ds)(hd:Vals tF ds)(hx:Passes CX X E)
  (ha:PA X (e::es) t) (o8:(x==("__debug__" : Str))=false:=by decide) (he:starEach (e::es) X.env=(false,eval e X.env)::starEach es X.env:=by rfl) (rD:(backTo pos (starEach es X.env)).any (·.1)=false:=by rfl) :
  PE X (.Call (.Name x p) (e::es) [] pos) (sV sp tF E t):=by
 intro pins s σ H Q I h
 refine wpAny_Call_Name_kw (ik I hg hm ?_ o8)
 refine PySem.W.callWith_K (h₀:=X.base) I.ok.mod.wK hk (bG (ha s σ H _ I h) fun us s1 hz_=>aj.el hz_ _ fun vs H1 I1 r q=>⟨I1.iA,?_⟩) he rD
 exact Bq F hr hb hd hx I1 r q
theorem B1 (F:bC X.prog X.w X.K X.mg X.base CX k f fd ps sp)(hr:dw k X.A)(hg:Gl X x)(hm:X.mg x=some (.ref f))(hk:Ye X.K (.ref f)=true)(hb:Binds X.K fd ps ds)(hd:Vals tF ds)(hx:Passes CX X E)
  (o8:(x==("__debug__" : Str))=false:=by decide):PE X (.Call (.Name x p) [] [] pos) (sV sp tF E Ae):=by
 intro pins s σ H Q I h
 refine wpAny_Call_Name_kw (ik I hg hm ?_ o8)
 exact PySem.W.callWith_K0 I.iA hk (Bq (us:=[]) F hr hb hd hx I .nil h)
structure Mk (K:Ja)(C f:Addr):Prop where
 makes:PySem.W.makesIn K C=true
 init:Ut K (.ref C) "__init__" = some (some (.ref f))
 fn:PySem.W.isFn K (.ref f)=true
 kp:Ye K (.ref C)=true
theorem Bi {pins:List (Addr×Obj)}{σ:St}{H:Hp}{s:Shared}{Q:VK}{us:List Value}{vs:List V}(M:Mk X.K C f)(F:bC X.prog X.w X.K X.mg X.base CX k f fd ps sp)(hr:dw (k+1) X.A)(hb:Binds X.K fd ps ds)(hd:Vals tF ds)
  (hx:Passes CX X E) (I:Inv X pins σ H s) (r:Vals vs us)
  (h:∀x dx,H x=none->H dx=none->dx≠x->sp (.ref x::(vs++tF)) (upd (upd H dx (.own x)) x (.ins C dx [])) (fun v H2=>v = .non/\Q (.ref x) H2) E) :
  wpAny (model X.prog X.w) X.A (call (.ref C) us) (EP X pins σ Q) X.xe s:=by
 have hq:=h (s.heap.objs.size+1) s.heap.objs.size (I.bB.fresh (U1 _)) (I.bB.fresh (Jd _)) (Jk (Nat.lt_succ_self _))
 have I2:=Inv.made (C:=C) I
 have r2:Vals (V.ref (s.heap.objs.size+1)::(vs++tF)) (Value.ref (s.heap.objs.size+1)::(us++ds)) := .cons rfl (r.append hd)
 have hl:(Value.ref (s.heap.objs.size+1)::us++ds).length=ps.length:=by
  have e:=r2.length
  rw[F.len _ _ _ _ hq] at e
  exact e.symm
 refine wpAny_call (BZ (f:=f) I.iA M.makes M.init (beq_iff_eq.mp M.fn) (codeAny_mono (F.run _ X.stack _ _ ⟨Value.ref (s.heap.objs.size+1)::us,[]⟩ (Value.ref (s.heap.objs.size+1)::(us++ds)) _ _ E (hr.make C us [])
  (I2.Eo.make C us []) (hb _ (Value.ref (s.heap.objs.size+1)::us) I2.iA hl) r2 hq) fun r s' hq' =>?_))
 cases r with
 | error e=>exact hx pins σ _ _ e s' I2 hq'
 | ok fl=>
  cases fl with
  | ret u=>
   obtain⟨v,H',I3,rv,ev,q3⟩:=I2.after hq'
   subst ev
   exact⟨rv,⟨V.ref (s.heap.objs.size+1),H',I3,rfl,q3⟩⟩
  | next=>exact False.elim hq'
  | brk=>exact False.elim hq'
  | cont=>exact False.elim hq'
theorem DW (M:Mk X.K C f)(F:bC X.prog X.w X.K X.mg X.base CX k f fd ps sp)(hr:dw (k+1) X.A)(hg:Gl X x)(hm:X.mg x=some (.ref C))(hb:Binds X.K fd ps ds)(hd:Vals tF ds)(hx:Passes CX X E)
  (ha:PA X (e::es) t) (o8:(x==("__debug__" : Str))=false:=by decide) (he:starEach (e::es) X.env=(false,eval e X.env)::starEach es X.env:=by rfl) (rD:(backTo pos (starEach es X.env)).any (·.1)=false:=by rfl) :
  PE X (.Call (.Name x p) (e::es) [] pos) (Kc C sp tF E t):=by
 intro pins s σ H Q I h
 refine wpAny_Call_Name_kw (ik I hg hm ?_ o8)
 refine PySem.W.callWith_K (h₀:=X.base) I.ok.mod.wK M.kp (bG (ha s σ H _ I h) fun us s1 hz_=>aj.el hz_ _ fun vs H1 I1 r q=>⟨I1.iA,?_⟩) he rD
 exact Bi M F hr hb hd hx I1 r q
end
structure aR (N P:List Str)(sc:Scope):Prop where
 kind:sc.kind = .function
 co:sc.isCoroutine=false
 gen:sc.isGenerator=false
 nd:N.Nodup
 pre:N.take P.length=P
 par:∀x∈P,sc.names.lookup x=some .local∨sc.names.lookup x=some .cell
 nofree:∀y∈sc.names,y.2 ≠ .free
theorem pX {kindOf:Str->Option NameKind}{x:Str}:∀{binds:List (Str×Value)} {m:Str->Option Value},(∀v,(x,v)∉binds)->bindL kindOf binds m x=m x
 | [],_,_=>rfl
 | (n,v)::r,m,h=>by
  unfold bindL
  rw[pX fun w hw=>h w (Jo _ hw)]
  split
  ·have:x≠n:=by rintro rfl;exact h v Js
   simp[this]
  ·rfl
theorem pL {kindOf:Str->Option NameKind}{x:Str}:∀{binds:List (Str×Value)} {m:Str->Option Value},(∀v,(x,v)∉binds)->bindC kindOf binds m x=m x
 | [],_,_=>rfl
 | (n,v)::r,m,h=>by
  unfold bindC
  rw[pL fun w hw=>h w (Jo _ hw)]
  split
  ·rfl
  ·have:x≠n:=by rintro rfl;exact h v Js
   simp[this]
theorem p0 {kindOf:Str->Option NameKind}{x:Str}{v:Value}:∀{P:List Str} {vs:List Value} {i:Nat} {m:Str->Option Value},P.Nodup->P[i]? = some x->vs[i]? = some v->kindOf x=some .local ->
  bindL kindOf (P.zip vs) m x=some v
 | [],_,_,_,_,h,_,_=>by simp at h
 | _::_,[],_,_,_,_,h,_=>by simp at h
 | p::P,w::vs,0,m,nd,h1,h2,hk=>by
  simp at h1 h2;subst h1;subst h2
  show bindL kindOf ((p,w)::P.zip vs) m p=_
  unfold bindL
  rw[pX fun v hv=>(Yq.mp nd).1 (List.of_mem_zip hv).1,if_pos hk]
  simp
 | p::P,w::vs,i+1,m,nd,h1,h2,hk=>by
  show bindL kindOf ((p,w)::P.zip vs) m x=_
  unfold bindL
  exact p0 (i:=i) (Yq.mp nd).2 (by simpa using h1) (by simpa using h2) hk
theorem qj {kindOf:Str->Option NameKind}{x:Str}{v:Value}:∀{P:List Str} {vs:List Value} {i:Nat} {m:Str->Option Value},P.Nodup->P[i]? = some x->vs[i]? = some v->kindOf x≠some .local ->
  bindC kindOf (P.zip vs) m x=some v
 | [],_,_,_,_,h,_,_=>by simp at h
 | _::_,[],_,_,_,_,h,_=>by simp at h
 | p::P,w::vs,0,m,nd,h1,h2,hk=>by
  simp at h1 h2;subst h1;subst h2
  show bindC kindOf ((p,w)::P.zip vs) m p=_
  unfold bindC
  rw[pL fun v hv=>(Yq.mp nd).1 (List.of_mem_zip hv).1,if_neg hk]
  simp
 | p::P,w::vs,i+1,m,nd,h1,h2,hk=>by
  show bindC kindOf ((p,w)::P.zip vs) m x=_
  unfold bindC
  exact qj (i:=i) (Yq.mp nd).2 (by simpa using h1) (by simpa using h2) hk
noncomputable def start (N:List Str)(vs:List V):St:=vs.map some++Jv (N.length-vs.length) none
noncomputable def kJ (CX:yV)(P:Program)(w:World)(K:Ja)(mg:Str->Option Value)(base:Heap)(N:List Str)(qual:Str)(scope:Scope)(f:Addr)(cd:Value)(A:Around)(outer:List Env)(s:Shared)(H:Hp)(E:XK):Cx where
 prog:=P
 w:=w
 K:=K
 mg:=mg
 base:=base
 A:=A.deeper (envOfC qual scope s.heap.objs.size f cd)
 N:=N
 s₀:=s
 H₀:=H
 env:=envOfC qual scope s.heap.objs.size f cd
 outer:=outer
 stack:=envOfC qual scope s.heap.objs.size f cd::outer
 ex:=[]
 calm:=true
 fn:=fun _=>true
 pn:=[]
 xe:=fun e s'=>wpAny (model P w) (A.deeper (envOfC qual scope s.heap.objs.size f cd)) (leaving (envOfC qual scope s.heap.objs.size f cd) e) (fun _ s''=>CX outer H s E e s'') (fun e' s''=>CX outer H s E e' s'') s'
theorem tQ {sc:Scope}{n:Nat}{x:Str}(h:sc.names.lookup x=some .cell):∃c,(cellsFrom n sc.names []).lookup x=some c:=by
 have q:=PySem.W.cellsFrom_some sc.names n [] (.inl h)
 exact Option.isSome_iff_exists.mp q
theorem yZ {CX:yV}{P:Program}{w:World}{K:Ja}{mg:Str->Option Value}{base:Heap}{N ps:List Str}{qual:Str}{scope:Scope}{f:Addr}{cd:Value}{A:Around}{outer:List Env}{s s1:Shared}{H:Hp}{E:XK}{us:List Value}{vs:List V}
  (S:aR N ps scope) (hd:A.handled=none) (e0:wA P w K mg base A outer s H) (hl:vs.length=ps.length) (r:Vals vs us)
  (x:InCallC s s.heap.objs.size (bindL (envOfC qual scope s.heap.objs.size f cd).kindOf (ps.zip us) fun _=>none) (cellsFrom (s.heap.objs.size+1) scope.names []) (bindC (envOfC qual scope s.heap.objs.size f cd).kindOf (ps.zip us) fun _=>none) s1) :
  Inv (kJ CX P w K mg base N qual scope f cd A outer s H E) [] (start N vs) H s1:=by
 have rD:ps.length<=N.length:=by have:=congrArg List.length S.pre;rw[Um] at this;omega
 obtain⟨h1,tk,rfl,hk⟩:=x.done
 have Kq:∀b:Addr,b∉(kJ CX P w K mg base N qual scope f cd A outer s H E).ex:=fun b z=>absurd (show b∈([]:List Addr) from z) (by simp)
 refine⟨⟨e0.mod,S.kind,rfl,rfl,Jd _,fun y z c h1 h2 =>?_,fun y hy =>?_,fun y c _ h =>?_,fun _=>hd,Around.frames_deeper e0.frames,.inr ⟨rfl,rfl⟩,fun b z=>absurd z (Kq b),e0.bs,e0.bsz,fun b _ _=>Kq b,fun b z=>absurd z (Kq b),e0.jv,e0.frf⟩,
  rfl,e0.bare,Un.kept hk,⟨_,x.toInCall.ns,fun i y v h1 h2 h3 =>?_⟩,fun y c h=>⟨_,x.cell y c h⟩,e0.bB.fresh (Jd _),fun y c h =>?_,fun p hp=>absurd (show p∈([]:List (Addr×Obj)) from hp) (by simp),e0.bB.kept hk,?_⟩
 ·exact name_of_addr x.apart (PySem.mem_of_lookup h1) (PySem.mem_of_lookup h2)
 ·have hy:scope.names.lookup y=some .cell∨scope.names.lookup y=some .free:=hy
  rcases hy with hy|hy
  ·exact tQ hy
  ·exact absurd rfl (S.nofree _ (PySem.mem_of_lookup hy))
 ·exact Uz (x.above y c (PySem.mem_of_lookup h))
 ·have hi:i<vs.length:=by
   unfold start at h2
   by_cases hi:i<vs.length
   ·exact hi
   ·rw[Ux (by simpa using hi)] at h2
    rw[Y0] at h2
    split at h2<;>cases h2
  have ha:vs[i]? = some v:=by
   unfold start at h2
   rw[Uy (by simpa using hi),Jl] at h2
   cases e:vs[i]? with
   | none=>rw[e] at h2;cases h2
   | some a=>rw[e] at h2;cases h2;rfl
  obtain⟨u,hu,rv⟩:=r.get ha
  have hp:ps[i]? = some y:=by
   rw[<-S.pre,List.getElem?_take_of_lt (by omega)];exact h1
  have RR:ps.Nodup:=by rw[<-S.pre];exact S.nd.sublist (List.take_sublist _ _)
  refine⟨u,rv,?_⟩
  rcases S.par y (Ju hp) with k|k
  ·exact .inl ⟨k,p0 RR hp hu k⟩
  ·obtain⟨c,e⟩:=tQ (n:=s.heap.objs.size+1) k
   refine .inr ⟨.inl k,c,e,?_⟩
   have q:=x.cell y c e
   rw[qj RR hp hu (by show scope.names.lookup y≠_;rw[k];decide)] at q
   exact q
 ·exact e0.bB.fresh (Uz (x.above y c (PySem.mem_of_lookup h)))
 ·unfold start
  show _=N.length
  rw[Jq,Je,U4]
  omega
theorem Fv {CX:yV}{P:Program}{w:World}{K:Ja}{mg:Str->Option Value}{base:Heap}{k:Nat}{f:Addr}{name qual:Str}{params:Arguments}{body:List Stmt}{scope:Scope}{dV kV doc pm dI ct oc:Value}{an od:Option Addr}
  {yo:Array (Option Value)} {N ps:List Str} {sp:Sp} (lk:K.lookup f=some ⟨oc,od,.func (Y7 name qual params body scope dV kV doc pm an dI ct),yo⟩) (vG:PySem.W.codeIn K dI qual=true) (S:aR N ps scope)
  (len:∀vs H Q E,sp vs H Q E->vs.length=ps.length)
  (tD:∀(A:Around) (outer:List Env) (s:Shared) (H:Hp) (vs:List V) (Q:VK) (E:XK),dw k (A.deeper (envOfC qual scope s.heap.objs.size f dI))->sp vs H Q E ->
   ∃t,uV (kJ CX P w K mg base N qual scope f dI A outer s H E) body t/\t { nx:=fun _ H'=>Q .non H',rt:=Q } (start N vs) H) :
  bC P w K mg base CX (k+1) f (Y7 name qual params body scope dV kV doc pm an dI ct) ps sp:=by
 refine⟨len,fun A outer s H args us vs Q E hr e0 hb r C9 =>?_⟩
 have hl:=len _ _ _ _ C9
 have KX:K.In s.heap:=e0.mod.wK.keeps fun b o e=>(e0.bs b o e).1
 have lim:s.heap.NoLimit:=e0.mod.nolimit.keeps fun b o e=>(e0.bs b o e).1
 have jA:∀y∈ps.zip us,scope.names.lookup y.1=some .local∨(scope.names.lookup y.1=some .cell/\((cellsFrom (s.heap.objs.size+1) scope.names []).lookup y.1).isSome=true):=fun⟨n,v⟩ hy=>by
  rcases S.par n (List.of_mem_zip hy).1 with q|q
  ·exact .inl q
  ·exact .inr ⟨q,PySem.W.cellsFrom_some _ _ _ (.inl q)⟩
 refine codeAny_call_function hr.depth (KX _ _ lk) rfl S.co S.gen rfl (PySem.W.codeRec_of KX vG) (hb _ _ _ _ ?_)
 refine wpAny_newFunctionEnv_cells S.kind jA fun env he s1 x =>?_
 subst he
 refine⟨lim.keeps x.toInCall.keep,codeAny_func ?_⟩
 obtain⟨t,ht,hq⟩:=tD A outer s H vs Q E (hr.deeper _) C9
 have I:Inv (kJ CX P w K mg base N qual scope f dI A outer s H E) [] (start N vs) H s1:=yZ S hr.hd e0 hl r x
 refine wpAny_mono (ht s1 (start N vs) H _ I hq) (fun fl s' hs =>?_) fun e s' hs=>hs
 have fin:∀{σ':St} {H':Hp} {v:V} {u:Value},Inv (kJ CX P w K mg base N qual scope f dI A outer s H E) [] σ' H' s'->RelV v u->Q v H'->CE outer P w H s Q u s':=
  fun{σ' H' v u} J rv q=>⟨v,H',J.os,J.bare,J.base,J.bB,rv,q⟩
 cases fl with
 | ret u=>
  obtain⟨v,σ',H',J,rv,q⟩:=hs
  exact fin J rv q
 | next=>
  obtain⟨σ',H',J,q⟩:=hs
  exact fin (v:=V.non) (u:=Value.none) J rfl q
 | brk=>
  obtain⟨_,_,_,q⟩:=hs
  exact False.elim q
 | cont=>
  obtain⟨_,_,_,q⟩:=hs
  exact False.elim q
section
variable {X:Cx}{x:Str}{p pos:Pos}{e:Expr}{es:List Expr}{t:TA}{id T:String}{r:List V->Hp->VK->Prop}
def MQ (r:List V->Hp->VK->Prop)(t:TA):TE:=fun σ H Q=>t σ H fun vs H1=>r vs H1 Q
theorem ai (hc:bN X (.builtin id) r)(hg:Gl X x)(hm:X.mg x=none)(hv:bootBuiltins x=some (.builtin id))(ha:PA X (e::es) t)(hn:x ≠ "__name__":=by decide)(o8:(x==("__debug__" : Str))=false:=by decide)
  (he:starEach (e::es) X.env=(false,eval e X.env)::starEach es X.env:=by rfl) (rD:(backTo pos (starEach es X.env)).any (·.1)=false:=by rfl):PE X (.Call (.Name x p) (e::es) [] pos) (MQ r t):=by
 intro pins s σ H Q I h
 refine wpAny_Call_Name_kw (dU I hg hm hv ?_ hn o8)
 exact PyProof.Rows.callWith_builtin1 (bG (ha s σ H _ I h) fun us s1 hz_=>aj.el hz_ _ fun vs H1 I1 r1 q1=>hc s1 σ H1 vs us Q I1 r1 q1) he rD
theorem ba (hc:bN X (.type T) r)(hg:Gl X x)(hm:X.mg x=none)(hv:bootBuiltins x=some (.type T))(ha:PA X (e::es) t)(hn:x ≠ "__name__":=by decide)(o8:(x==("__debug__" : Str))=false:=by decide)
  (he:starEach (e::es) X.env=(false,eval e X.env)::starEach es X.env:=by rfl) (rD:(backTo pos (starEach es X.env)).any (·.1)=false:=by rfl):PE X (.Call (.Name x p) (e::es) [] pos) (MQ r t):=by
 intro pins s σ H Q I h
 refine wpAny_Call_Name_kw (dU I hg hm hv ?_ hn o8)
 exact PyProof.Rows.callWith_type1 (bG (ha s σ H _ I h) fun us s1 hz_=>aj.el hz_ _ fun vs H1 I1 r1 q1=>hc s1 σ H1 vs us Q I1 r1 q1) he rD
end
section
variable {κ:Type}[DecidableEq κ]
noncomputable def gW (kvs:List (κ×V))(k: κ):Option V:=(kvs.find? fun kv=>decide (kv.1=k)).map (·.2)
noncomputable def putK (kvs:List (κ×V))(k: κ)(v:V):List (κ×V):=
 if (kvs.any fun kv=>decide (kv.1=k))=true then kvs.map (fun kv=>if kv.1=k then (kv.1,v) else kv) else kvs++[(k,v)]
theorem fj {p: κ×V}{r:List (κ×V)}{k: κ}(e:p.1=k):gW (p::r) k=some p.2:=by simp[gW,List.find?_cons,e]
theorem fe {p: κ×V}{r:List (κ×V)}{k: κ}(e:¬p.1=k):gW (p::r) k=gW r k:=by simp[gW,List.find?_cons,e]
theorem iR (k: κ):∀kvs:List (κ×V),(kvs.any fun kv=>decide (kv.1=k))=(gW kvs k).isSome
 | []=>rfl
 | p::r=>by
  rw[Wc]
  by_cases e:p.1=k
  ·simp only[fj e,decide_eq_true e,Bool.true_or,Option.isSome_some]
  ·rw[fe e,decide_eq_false e,Bool.false_or];exact iR k r
theorem qf (k j: κ)(y:V):∀kvs:List (κ×V),gW kvs k=none->gW (kvs++[(k,y)]) j=if j=k then some y else gW kvs j
 | [],_=>by
  by_cases e:k=j
  ·rw[if_pos e.symm];exact fj (p:=(k,y)) e
  ·rw[if_neg (fun z=>e z.symm)];exact fe (p:=(k,y)) e
 | p::r,hn=>by
  rw[List.cons_append]
  have hk:¬p.1=k:=fun z=>by rw[fj z] at hn;cases hn
  rw[fe hk] at hn
  have ih:=qf k j y r hn
  by_cases e:p.1=j
  ·rw[fj e,fj e,if_neg (fun z=>hk (e.trans z))]
  ·rw[fe e,fe e,ih]
theorem jk (kvs:List (κ×V))(k: κ)(v:V):(putK kvs k v).length<=kvs.length+1:=by
 unfold putK
 split
 ·rw[Je];omega
 ·rw[Jq,J0,List.length_nil];omega
theorem Bh {kvs:List (κ×V)}{k: κ}(v:V)(h:gW kvs k=none):putK kvs k v=kvs++[(k,v)]:=by
 unfold putK
 rw[iR,h]
 exact if_neg (by decide)
theorem kC.zC {o:Option V}{u:Option Value}(r:kC o u):o.isSome=u.isSome:=by
 cases o with
 | none=>cases u with
  | none=>rfl
  | some _=>exact(show False from r).elim
 | some _=>cases u with
  | none=>exact(show False from r).elim
  | some _=>rfl
theorem KV.val {kvs:List (κ×V)}{vs:List (κ×Value)}(r:KV kvs vs)(k: κ):kC (gW kvs k) (valueAt vs k):=by
 unfold KV at r
 induction r with
 | nil=>exact True.intro
 | @cons p q ps qs h t ih=>
  obtain⟨h1,h2⟩:=h
  by_cases e:p.1=k
  ·have e':q.1=k:=h1.symm.trans e
   have b:valueAt (q::qs) k=some q.2:=by simp[valueAt,List.find?_cons,e']
   rw[fj e,b];exact h2
  ·have e':¬q.1=k:=fun z=>e (h1.trans z)
   have b:valueAt (q::qs) k=valueAt qs k:=by simp[valueAt,List.find?_cons,e']
   rw[fe e,b];exact ih
theorem KV.any {kvs:List (κ×V)}{vs:List (κ×Value)}(r:KV kvs vs)(k: κ):(kvs.any fun kv=>decide (kv.1=k))=vs.any fun kv=>decide (kv.1=k):=by
 unfold KV at r
 induction r with
 | nil=>rfl
 | cons h t ih=>rw[Wc,Wc,ih,h.1]
theorem KV.GS {kvs:List (κ×V)}{vs:List (κ×Value)}(r:KV kvs vs)(k: κ){y:V}{u:Value}(ry:RelV y u):
  KV (kvs.map fun kv=>if kv.1=k then (kv.1,y) else kv) (vs.map fun kv=>if kv.1=k then (kv.1,u) else kv):=by
 unfold KV at r ⊢
 induction r with
 | nil=>exact .nil
 | @cons p q ps qs h t ih=>
  rw[Ub,Ub]
  refine .cons ?_ ih
  obtain⟨h1,h2⟩:=h
  by_cases e:p.1=k
  ·rw[if_pos e,if_pos (h1.symm.trans e)];exact⟨h1,ry⟩
  ·rw[if_neg e,if_neg (fun z=>e (h1.trans z))];exact⟨h1,h2⟩
theorem KV.put {kvs:List (κ×V)}{vs:List (κ×Value)}(r:KV kvs vs)(k: κ){y:V}{u:Value}(ry:RelV y u):KV (putK kvs k y) (stored vs k u):=by
 unfold putK stored
 rw[r.any k]
 by_cases e:(vs.any fun kv=>decide (kv.1=k))=true
 ·rw[if_pos e,if_pos e];exact r.GS k ry
 ·rw[if_neg e,if_neg e];exact Paired.snoc r ⟨rfl,ry⟩
theorem KV.length {kvs:List (κ×V)}{vs:List (κ×Value)}(r:KV kvs vs):kvs.length=vs.length:=Paired.length r
end
theorem qi {P:Program}{w:World}{k:Key}{u:Value}(r:RelV (kV k) u):(bA P w).is k u=true:=by
 cases k with
 | inl i=>obtain⟨t,e⟩:=(show ∃t,u=Value.int i t from r);subst e;exact sU P w i t
 | inr x=>obtain⟨t,e⟩:=(show ∃t,u=Value.str x t from r);subst e;exact sZ P w x t
theorem qr {P:Program}{w:World}:∀{ks:List Key} {us:List Value},Vals (ks.map kV) us->ItemsAre (bA P w) ks us
 | [],_,r=>by rw[List.map_nil] at r;cases r;exact .nil
 | k::ks,_,r=>by
  rw[Ub] at r
  cases r with
  | cons h t=>exact .cons (qi h) (qr t)
abbrev KT (H:Hp):List (List Key×V)->List (List Key×Addr×Value)->Prop:=Paired fun p q=>p.1=q.1/\H q.2.1=some (.tup (p.1.map kV))/\RelV p.2 q.2.2
theorem KT.val {H:Hp}{kvs:List (List Key×V)}{xs:List (List Key×Addr×Value)}(r:KT H kvs xs)(k:List Key):kC (gW kvs k) ((atKey xs k).map (·.2)):=by
 induction r with
 | nil=>exact True.intro
 | @cons p q ps qs h t ih=>
  obtain⟨h1,_,h2⟩:=h
  by_cases e:p.1=k
  ·have e':q.1=k:=h1.symm.trans e
   have b:atKey (q::qs) k=some q.2:=by simp[atKey,List.find?_cons,e']
   rw[fj e,b];exact h2
  ·have e':¬q.1=k:=fun z=>e (h1.trans z)
   have b:atKey (q::qs) k=atKey qs k:=by simp[atKey,List.find?_cons,e']
   rw[fe e,b];exact ih
theorem KT.GS {H:Hp}{kvs:List (List Key×V)}{xs:List (List Key×Addr×Value)}(r:KT H kvs xs)(k:List Key){y:V}{u:Value}(ry:RelV y u):
  KT H (kvs.map fun kv=>if kv.1=k then (kv.1,y) else kv) (xs.map (putAt k u)):=by
 induction r with
 | nil=>exact .nil
 | @cons p q ps qs h t ih=>
  rw[Ub,Ub]
  refine .cons ?_ ih
  obtain⟨h1,h2,h3⟩:=h
  unfold putAt
  by_cases e:p.1=k
  ·rw[if_pos e,if_pos (h1.symm.trans e)];exact⟨h1,h2,ry⟩
  ·rw[if_neg e,if_neg (fun z=>e (h1.trans z))];exact⟨h1,h2,h3⟩
theorem KT.put {H:Hp}{kvs:List (List Key×V)}{xs:List (List Key×Addr×Value)}(r:KT H kvs xs)(k:List Key){b:Addr}{y:V}{u:Value}(hb:H b=some (.tup (k.map kV)))(ry:RelV y u):
  KT H (putK kvs k y) (storedH xs k b u):=by
 have e:(kvs.any fun kv=>decide (kv.1=k))=(atKey xs k).isSome:=by
  rw[iR,(r.val k).zC,Option.isSome_map]
 unfold putK storedH
 rw[e]
 by_cases q:(atKey xs k).isSome=true
 ·rw[if_pos q,if_pos q];exact r.GS k ry
 ·rw[if_neg q,if_neg q];exact Paired.snoc r ⟨rfl,hb,ry⟩
theorem KT.keeps {H H':Hp}{kvs:List (List Key×V)}{xs:List (List Key×Addr×Value)}(r:KT H kvs xs)(ht:∀b ys,H b=some (.tup ys)->H' b=some (.tup ys)):KT H' kvs xs:=
 Paired.Mn r fun _ _ z=>⟨z.1,ht _ _ z.2.1,z.2.2⟩
section
variable {P:Program}{w:World}{H:Hp}{h:Heap}{a:Addr}
theorem Fs {u:HO}(ok:hZ P w H h)(e:Rd H a u):bt P w H h a u:=e.ok ok
theorem BS {kvs:List (Key×V)}(ok:hZ P w H h)(e:Rd H a (.dK kvs)):kvs.length<=sizeLine/\(a==sysModules)=false/\∃vs,KV kvs vs/\h.DictOf (bA P w) a vs:=
 show bt P w H h a (.dK kvs) from Fs ok e
theorem CZ {kvs:List (Key×V)}(ok:hZ P w H h)(e:H a=some (.dK kvs)):kvs.length<=sizeLine/\(a==sysModules)=false/\∃vs,KV kvs vs/\h.DictOf (bA P w) a vs:=BS ok (.inl e)
theorem wk {ks:List Key}(ok:hZ P w H h)(e:H a=some (.tup (ks.map kV))):(tupleKind (bA P w)).is h ks a:=by
 obtain⟨_,aA,r,o,h1,_,h2,n,h3⟩:=(show bt P w H h a (.tup (ks.map kV)) from ok a _ e)
 exact⟨o,aA.toArray,n,h1,h2,h3,by simpa using qr r⟩
theorem AU {kvs:List (List Key×V)}(ok:hZ P w H h)(e:Rd H a (.dT kvs)):kvs.length<=sizeLine/\(a==sysModules)=false /\
  ∃xs,KT H kvs xs/\h.DictOfH (tupleKind (bA P w)) a xs:=by
 obtain⟨z,y,xs,r,o,es,ep,h1,h2,h3,h4,h5⟩:=(show bt P w H h a (.dT kvs) from Fs ok e)
 refine⟨z,y,xs,r,o,es,ep,h1,h2,h3,h4,fun x hx =>?_,h5⟩
 have all:∀{l:List (List Key×V)} {m:List (List Key×Addr×Value)},KT H l m->∀x∈m,(tupleKind (bA P w)).is h x.1 x.2.1:=by
  intro l m q
  induction q with
  | nil=>intro x hx;exact nomatch hx
  | @cons p q ps qs hq t ih=>
   intro x hx
   rcases Jm.mp hx with e|hx
   ·subst e
    exact wk ok (by rw[<-hq.1];exact hq.2.1)
   ·exact ih x hx
 exact all r x hx
theorem Mc {kvs:List (List Key×V)}(ok:hZ P w H h)(e:H a=some (.dT kvs)):kvs.length<=sizeLine/\(a==sysModules)=false /\
  ∃xs,KT H kvs xs/\h.DictOfH (tupleKind (bA P w)) a xs:=AU ok (.inl e)
end
def iz (H:Hp)(a:Addr)(y:V)(r:Option V):Prop:=
 (fE fun kvs k=>Rd H a (.dK kvs)/\y=kV k/\r=gW kvs k)∨mI fun kvs k b=>Rd H a (.dT kvs)/\y = .ref b/\H b=some (.tup (k.map kV))/\r=gW kvs k
def kK (H:Hp)(a:Addr)(y v:V)(H':Hp):Prop:=
 (fE fun kvs k=>H a=some (.dK kvs)/\y=kV k/\kvs.length<sizeLine/\H'=upd H a (.dK (putK kvs k v))) ∨
 mI fun kvs k b=>H a=some (.dT kvs)/\y = .ref b/\H b=some (.tup (k.map kV))/\kvs.length<sizeLine/\H'=upd H a (.dT (putK kvs k v))
theorem iz.k {H:Hp}{a:Addr}{kvs:List (Key×V)}{k:Key}(e:H a=some (.dK kvs)):iz H a (kV k) (gW kvs k) := .inl ⟨kvs,k,.inl e,rfl,rfl⟩
theorem kK.k {H:Hp}{a:Addr}{kvs:List (Key×V)}{k:Key}{v:V}(e:H a=some (.dK kvs))(hl:kvs.length<sizeLine):kK H a (kV k) v (upd H a (.dK (putK kvs k v))) := .inl ⟨kvs,k,e,rfl,hl,rfl⟩
section
variable {X:Cx}{pins:List (Addr×Obj)}{σ:St}{H:Hp}{s:Shared}{a:Addr}{y v:V}{u r:Value}{o:Option V}{A:Around}{E:Value->Shared->Prop}
theorem Inv.big (I:Inv X pins σ H s):sysModules<s.heap.objs.size:=by
 have h:mainGlobals<s.heap.objs.size:=(I.mod.glob.keeps I.bk).lt
 exact Nat.lt_trans (by decide) h
theorem zT {Q:Value->Shared->Prop}(hu:A.units+1<cLine)(I:Inv X pins σ H s)(g:iz H a y (some v))(ry:RelV y u)(h:∀w' s',Inv X pins σ H s'->RelV v w'->Q w' s'):
  wpAny (model X.prog X.w) A (getItem (.ref a) u) Q E s:=by
 rcases g with ⟨kvs,k,e,ey,l⟩|⟨kvs,k,b,e,ey,eb,l⟩
 ·subst ey
  obtain⟨z,hd,vs,rel,dd⟩:=BS I.bB e
  obtain⟨w',hw,rw'⟩:=kC.some_of (v:=v) (o:=valueAt vs k) (by rw[l];exact rel.val k)
  exact wpAny_getItem_of (qi ry) dd.mapOf hw (h w' _ (I.tok _) rw')
 ·subst ey
  cases (show u=Value.ref b from ry)
  obtain⟨z,hd,xs,rel,dd⟩:=AU I.bB e
  obtain⟨w',hw,rw'⟩:=kC.some_of (v:=v) (o:=(atKey xs k).map (·.2)) (by rw[l];exact rel.val k)
  obtain⟨p,hp,si⟩:=Option.map_eq_some_iff.mp hw
  refine wpAny_getItem_heap (tupleKind_room_in1 hu) (wk I.bB eb) dd hp ?_
  rw[si]
  exact h w' _ (I.tok _) rw'
theorem mP {h':Heap}{t':Nat}{ob:HO}(I:Inv X pins σ H s)(mu:JK (H a))(hs:U0 a s.heap h')(he:∃q,h'.get? a=some q)(new:bt X.prog X.w (upd H a ob) h' a ob):
  Inv X pins σ (upd H a ob) { s with heap:=h',toks:=t' }:=
 I.write (x:=a) (e:=a) mu (.inl rfl) (fun b q hb z=>(hs.2 b hb).trans z) he new
theorem CM {P:Program}{w:World}{H':Hp}{h':Heap}{kvs:List (Key×V)}{vs:List (Key×Value)}(z:kvs.length<=sizeLine)(hd:(a==sysModules)=false)(rel:KV kvs vs)(dd:h'.DictOf (bA P w) a vs):
  bt P w H' h' a (.dK kvs):=⟨z,hd,vs,rel,dd⟩
theorem zD {H':Hp}{Q:Unit->Shared->Prop}(hu:A.units+1<cLine)(I:Inv X pins σ H s)(g:kK H a y v H')(ry:RelV y u)(rv:RelV v r)(h:∀s',Inv X pins σ H' s'->Q () s'):
  wpAny (model X.prog X.w) A (setItem (.ref a) u r) Q E s:=by
 rcases g with ⟨kvs,k,e,ey,l,eH⟩|⟨kvs,k,b,e,ey,eb,l,eH⟩
 ·subst ey eH
  obtain⟨z,hd,vs,rel,dd⟩:=CZ I.bB e
  have hz:vs.length<=sizeLine:=by rw[<-rel.length];exact z
  have hl:(putK kvs k v).length<=sizeLine:=by have:=jk kvs k v;omega
  refine wpAny_setItem_pairs (hsz:=hz) (qi ry) dd fun h' dd' hs=>h _ ?_
  have he:∃q,h'.get? a=some q:=let ⟨q,_,_,hq,_⟩:=dd'; ⟨q,hq⟩
  exact mP I (by rw[e];exact True.intro) hs he (CM hl hd (rel.put k rv) dd')
 ·subst ey eH
  cases (show u=Value.ref b from ry)
  obtain⟨z,hd,xs,rel,dd⟩:=Mc I.bB e
  have hz:xs.length<=sizeLine:=by rw[<-Paired.length rel];exact z
  have hl:(putK kvs k v).length<=sizeLine:=by have:=jk kvs k v;omega
  refine wpAny_setItem_heap (hsz:=hz) (tupleKind_room_in1 hu) (wk I.bB eb) dd fun h' dd' hs=>h _ ?_
  obtain⟨q,es,ep,hq,h2,h3,h4,_,h5⟩:=dd'
  refine mP I (by rw[e];exact True.intro) hs ⟨q,hq⟩ ⟨hl,hd,_,(rel.put k eb rv).keeps fun c ys ec =>?_,q,es,ep,hq,h2,h3,h4,h5⟩
  rw[ao (Fp ec e (fun z=>nomatch z))]
  exact ec
end
def Kp (i:Expr):Prop:=∀ov iv,subscripted i false ov iv=operate [ov,iv] (getItem ov iv)
theorem Dq {prog:Program}{w:World}{A:Around}{E:Value->Shared->Prop}{s:Shared}{env:Env}{value slice:Expr}{pos:Pos}{T id:String}{Q:Value->Shared->Prop}
  (hl:typeLookup (.type T) "__getitem__" = pure (some (.builtin id))) (hs:Kp slice)
  (h:wpAny (model prog w) A (eval value env) (fun o s₁=>wpAny (model prog w) A (eval slice env) (fun i s₂=>s₂.TypeIs o T/\wpAny (model prog w) A (getItem o i) Q E s₂) E s₁) E s) :
  wpAny (model prog w) A (eval (.Subscript value slice pos) env) Q E s:=by
 refine Subscript_ (wpAny_mono h (fun o s₁ h₁=>wpAny_mono h₁ (fun i s₂ h₂ =>?_) fun _ _ x=>x) fun _ _ x=>x)
 obtain⟨hT,h₂⟩:=h₂
 unfold subscriptTail
 refine wpAny_bind ?_
 rw[getitemInPython_of_ne hT.not_modules]
 refine wpAny_bind (wpAny_specialOf hT hl ?_)
 have fin:wpAny (model prog w) A (subscripted slice false o i) (fun r s₃=>wpAny (model prog w) A (letTemporaryGo value o r >>= fun _=>pure r) Q E s₃) E s₂:=by
  rw[hs o i]
  exact wpAny_operating (wpAny_mono h₂ (fun r s₃ h₃=>wpAny_bind (wpAny_letTemporaryGo (wpAny_pure h₃))) fun _ _ x=>x)
 first
  | exact wpAny_pure (wpAny_bind fin)
  | exact wpAny_bind (wpAny_pure (wpAny_bind fin))
  | exact wpAny_bind fin
theorem tR {X:Cx}{pins:List (Addr×Obj)}{σ:St}{H:Hp}{s:Shared}{a:Addr}{y:V}{o:Option V}(I:Inv X pins σ H s)(g:iz H a y o):s.TypeIs (.ref a) "dict":=by
 rcases g with ⟨kvs,k,e,_,_⟩|⟨kvs,k,b,e,_,_,_⟩
 ·obtain⟨_,_,vs,_,dd⟩:=BS I.bB e
  exact dd.typeIs
 ·obtain⟨_,_,xs,_,dd⟩:=AU I.bB e
  exact dd.typeIs
def LQ (td ty:TE):TE:=fun σ H Q=>td σ H fun x H1=>ty σ H1 fun y H2=>fE fun a v=>x = .ref a/\iz H2 a y (some v)/\Q v H2
def KH (td ty tv:TE):TS:=fun D σ H=>tv σ H fun v H1=>td σ H1 fun x H2=>ty σ H2 fun y H3=>fE fun a H4=>x = .ref a/\kK H3 a y v H4/\D.nx σ H4
section
variable {X:Cx}{o i e value:Expr}{pos pos' PV:Pos}{td ty tv:TE}
theorem cN (hu:X.A.units+1<cLine)(ho:PE X o td)(hi:PE X i ty)(hs:Kp i):PE X (.Subscript o i pos) (LQ td ty):=by
 intro pins s σ H Q I h
 refine Dq PySem.F.slot_dict_getitem.lookup hs (bG (ho s σ H _ I h) fun u s1 hz_=>aj.el hz_ _ fun x H1 I1 rx q1=>bG (hi s1 σ H1 _ I1 q1) fun iv s2 hz_ =>?_)
 refine aj.el hz_ _ ?_
 clear hz_
 rintro y H2 I2 ry ⟨a,v,ex,g,q2⟩
 subst ex
 obtain rfl:u=Value.ref a:=rx
 exact⟨tR I2 g,zT hu I2 g ry fun w' s3 I3 rw'=>⟨v,H2,I3,rw',q2⟩⟩
theorem kq (hu:X.A.units+1<cLine)(ho:PE X o td)(hi:PE X i ty)(hv:PE X value tv)(hs:swapsWith value (some (.Subscript o i pos')) pos.line X.env=pure false):
  PS X (.Assign [.Subscript o i pos'] value pos) (KH td ty tv):=by
 intro pins s σ H D I h
 refine wpAny_Assign_Subscript (bG (hv s σ H _ I h) fun r s1 ⟨v,H1,I1,rv,q1⟩=>bG (ho s1 σ H1 _ I1 q1) fun u s2 ⟨x,H2,I2,rx,q2⟩=>bG (hi s2 σ H2 _ I2 q2) fun iv s3 ⟨y,H3,I3,ry,a,H4,ex,g,q3⟩=>?_) hs
 subst ex
 obtain rfl:u=Value.ref a:=rx
 exact zD hu I3 g ry rv fun s4 I4=>⟨σ,H4,I4,q3⟩
end
theorem Bs {P:Program}{w:World}{H:Hp}(h:Heap)(hb:sysModules<h.objs.size):bt P w H (h.push { cls := .type "dict",data := .dict #[] }) h.objs.size (.dK []):=
 ⟨Uw _,beq_eq_false_iff_ne.mpr (Ne.symm (Jk hb)),[],.nil,Heap.DictOf.new h⟩
def nH:List (TE×TE)->St->Hp->(List (V×V)->Hp->Prop)->Prop
 | [],_,H,Q=>Q [] H
 | (tk,tv)::r,σ,H,Q=>tk σ H fun x H1=>tv σ H1 fun y H2=>nH r σ H2 fun ps H3=>Q ((x,y)::ps) H3
abbrev VV:List (V×V)->List (Value×Value)->Prop:=Paired fun p q=>RelV p.1 q.1/\RelV p.2 q.2
def KP (X:Cx)(pos:Pos)(keys:List (Option Expr))(values:List Expr)(sx:List (TE×TE)):Prop:=
 ∀ ⦃pins:List (Addr×Obj)⦄ (s:Shared) (σ:St) (H:Hp) (Q:List (V×V)->Hp->Prop),Inv X pins σ H s->nH sx σ H Q ->
  wpAny (model X.prog X.w) X.A (evalPairs (pairTrees keys values X.env pos)) (fun vs s'=>fE fun ps H'=>Inv X pins σ H' s'/\VV ps vs/\Q ps H') X.xe s
theorem DF {X:Cx}{pos:Pos}:KP X pos [] [] []:=fun pins s σ H Q I h=>pairTrees_nil_walk ⟨[],H,I,.nil,h⟩
theorem tj {X:Cx}{pos:Pos}{k v:Expr}{ks:List (Option Expr)}{vs:List Expr}{tk tv:TE}{sx:List (TE×TE)}(hk:PE X k tk)(hv:PE X v tv)(hr:KP X pos ks vs sx):
  KP X pos (some k::ks) (v::vs) ((tk,tv)::sx):=fun pins s σ H Q I h=>
 pairTrees_cons_walk (bG (hk s σ H _ I h) fun u s1 hz_=>aj.el hz_ _ fun x H1 I1 rx q1=>bG (hv s1 σ H1 _ I1 q1) fun w2 s2 ⟨y,H2,I2,ry,q2⟩=>
  bG (hr s2 σ H2 _ I2 q2) fun ws s3 hz_=>aj.el hz_ _ fun ps H3 I3 rel q3=>⟨(x,y)::ps,H3,I3,.cons ⟨rx,ry⟩ rel,q3⟩)
noncomputable def cK (kvs more:List (Key×V)):List (Key×V):=more.foldl (fun acc kv=>putK acc kv.1 kv.2) kvs
theorem KV.merge:∀{more:List (Key×V)} {rs:List (Key×Value)} {kvs:List (Key×V)} {vs:List (Key×Value)},KV more rs->KV kvs vs->KV (cK kvs more) (merged vs rs):=by
 intro more rs kvs vs r
 unfold KV at r
 induction r generalizing kvs vs with
 | nil=>intro q;exact q
 | @cons p q ps qs h t ih=>
  intro r0
  have e:KV (putK kvs p.1 p.2) (stored vs q.1 q.2):=by
   have:=r0.put p.1 h.2
   rw[<-h.1];exact this
  exact ih e
theorem dq:∀(more kvs:List (Key×V)),(cK kvs more).length<=kvs.length+more.length
 | [],kvs=>by show kvs.length<=kvs.length+0;omega
 | p::r,kvs=>by
  have h1:=dq r (putK kvs p.1 p.2)
  have h2:=jk kvs p.1 p.2
  show(cK (putK kvs p.1 p.2) r).length<=_
  rw[J0];omega
theorem oj {P:Program}{w:World}:∀{kvs:List (Key×V)} {ws:List (Value×Value)},VV (kvs.map fun kv=>(kV kv.1,kv.2)) ws->∃rs,Carries (bA P w) ws rs/\KV kvs rs
 | [],_,r=>by rw[List.map_nil] at r;cases r;exact⟨[],True.intro,.nil⟩
 | p::kvs,_,r=>by
  rw[Ub] at r
  cases r with
  | @cons a b as bs h t=>
   obtain⟨rs,c,q⟩:=oj (P:=P) (w:=w) t
   obtain⟨b1,b2⟩:=b
   exact⟨(p.1,b2)::rs,⟨qi h.1,rfl,c⟩,.cons ⟨rfl,h.2⟩ q⟩
def Bt (sx:List (TE×TE)):TE:=fun σ H Q=>∀p,H p=none->nH sx σ (upd H p (.dK [])) fun ps H2=>H2 p=some (.dK [])/\∃kvs:List (Key×V),ps=kvs.map (fun kv=>(kV kv.1,kv.2))/\kvs.length<=15/\Q (.ref p) (upd H2 p (.dK (cK [] kvs)))
theorem EN {X:Cx}{pos:Pos}{keys:List (Option Expr)}{values:List Expr}{sx:List (TE×TE)}(h:KP X pos keys values sx)(gf:keys.all (·.isSome)=true)(hl:keys.length=values.length)(h0:keys≠[])
  (Qq:keys.length<=15):PE X (.Dict keys values pos) (Bt sx):=by
 intro pins s σ H Q I q
 have hn:=I.bB.fresh (Jd s.heap.objs.size)
 have I1:=I.laid (a:=s.heap.objs.size) (o := .dK []) (h':=s.heap.push { cls := .type "dict",data := .dict #[] }) (t':=s.toks) (fun _ _ q=>Jb _ q) (Jd _) (Bs s.heap I.big)
 refine wpAny_Dict_walk (knd:=bA X.prog X.w) gf hl h0 Qq (bG (h _ σ _ _ I1 (q _ hn)) fun ws s2 hz_=>aj.el hz_ _ fun ps H2 I2 rel e kvs ep lk q2 =>?_)
 subst ep
 obtain⟨rs,c,rk⟩:=oj (P:=X.prog) (w:=X.w) rel
 obtain⟨z,hd,vs0,r0,dd⟩:=CZ I2.bB e
 cases r0
 refine⟨rs,c,dd,fun h' dd' hs=>⟨.ref s.heap.objs.size,_,?_,rfl,q2⟩⟩
 have hz:(cK [] kvs).length<=sizeLine:=by
  have h1:=dq kvs []
  rw[List.length_nil] at h1
  rw[sizeLine_eq];omega
 have he:∃q,h'.get? s.heap.objs.size=some q:=let ⟨q,_,_,hq,_⟩:=dd'; ⟨q,hq⟩
 exact mP I2 (by rw[e];exact True.intro) hs he (CM hz hd (rk.merge .nil) dd')
end L2
namespace HT
open PySem PyProof.Rows
section
variable {prog:Program}{w:World}{A:Around}{E:Value->Shared->Prop}{s:Shared}
noncomputable def oQ (n d:Nat):Option Int->Nat
 | none=>d
 | some v=>if v<0 then (v+(n:Int)).toNat else min v.toNat n
theorem uf (n d:Nat):oQ n d none=d:=rfl
theorem xV (n d k:Nat):oQ n d (some (k:Int))=min k n:=by
 show(if (k:Int)<0 then ((k:Int)+(n:Int)).toNat else min (k:Int).toNat n)=min k n
 rw[if_neg (by omega),Y1]
end
end HT
namespace L2
open PySem PySem.Spec PyProof.Rows
abbrev TO:=St->Hp->(Option Int->Hp->Prop)->Prop
def PO (X:Cx)(e:Option Expr)(t:TO):Prop:=
 ∀ ⦃pins:List (Addr×Obj)⦄ (s:Shared) (σ:St) (H:Hp) (Q:Option Int->Hp->Prop),Inv X pins σ H s->t σ H Q ->
  wpAny (model X.prog X.w) X.A (evalPart e X.env) (fun u s'=>fE fun o H'=>Inv X pins σ H' s'/\IsPart u o/\Q o H') X.xe s
noncomputable def qK:TO:=fun _ H Q=>Q none H
noncomputable def AH (t:TE):TO:=fun σ H Q=>t σ H fun x H1=>∃i,x = .int i/\Q (some i) H1
section
variable {X:Cx}{e:Expr}{te:TE}{lo hi:Option Expr}{tl th:TO}{pos p2:Pos}
theorem bZ:PO X none qK:=by
 intro pins s σ H Q I h
 rw[evalPart_none]
 exact wpAny_pure ⟨none,H,I,.none,h⟩
theorem bH (h:PE X e te):PO X (some e) (AH te):=by
 intro pins s σ H Q I hw
 rw[evalPart_some]
 refine bG (h s σ H _ I hw) fun u s1 hz_ =>?_
 refine aj.el hz_ _ ?_
 clear hz_
 rintro x H1 I1 r1 q1
 obtain⟨i,rfl,q⟩:=q1
 obtain⟨t,rfl⟩:=r1
 exact⟨some i,H1,I1,.int i t,q⟩
def C6 (X:Cx)(r:V->Option Int->Option Int->Hp->VK->Prop):Prop:=
 ∀ ⦃pins:List (Addr×Obj)⦄ (s:Shared) (σ:St) (H:Hp) (x:V) (v vl vu:Value) (lo hi:Option Int) (sl:Addr) (Q:VK),Inv X pins σ H s->RelV x v->s.heap.IsSliceOf sl vl vu .none->IsPart vl lo->IsPart vu hi->r x lo hi H Q ->
  fE fun T id=>typeLookup (.type T) "__getitem__" = pure (some (.builtin id))/\s.TypeIs v T/\wpAny (model X.prog X.w) X.A (getItem v (.ref sl)) (EP X pins σ Q) X.xe s
theorem C6.or {r r':V->Option Int->Option Int->Hp->VK->Prop}(h:C6 X r)(h':C6 X r'):C6 X (fun x lo hi H Q=>r x lo hi H Q∨r' x lo hi H Q):=by
 intro pins s σ H x v vl vu lo hi sl Q I rx hs pl pu q
 rcases q with q|q
 ·exact h s σ H x v vl vu lo hi sl Q I rx hs pl pu q
 ·exact h' s σ H x v vl vu lo hi sl Q I rx hs pl pu q
def Pq (r:V->Option Int->Option Int->Hp->VK->Prop)(te:TE)(tl th:TO):TE:=fun σ H Q=>te σ H fun x H1=>tl σ H1 fun l H2=>th σ H2 fun u H3=>r x l u H3 Q
theorem bz {r:V->Option Int->Option Int->Hp->VK->Prop}(hr:C6 X r)(he:PE X e te)(hl:PO X lo tl)(hu:PO X hi th):PE X (.Subscript e (.Slice lo hi none p2) pos) (Pq r te tl th):=by
 intro pins s σ H Q I h
 refine Subscript_ (bG (he s σ H _ I h) fun v s1 hz_ =>?_)
 refine aj.el hz_ _ ?_
 clear hz_
 rintro x H1 I1 r1 q1
 refine wpAny_Slice (bG (hl s1 σ H1 _ I1 q1) fun vl s2 hz_=>aj.el hz_ _ fun l H2 I2 pl q2=>bG (hu s2 σ H2 _ I2 q2) fun vu s3 hz_ =>?_)
 refine aj.el hz_ _ ?_
 clear hz_
 rintro u H3 I3 pu q3
 rw[evalPart_none]
 refine wpAny_pure ?_
 have I4:Inv X pins σ H3 { s3 with heap:=s3.heap.push { cls := .type "slice",data := .fields #[vl,vu,.none] } }:=I3.kept (t':=s3.toks) fun b ob q=>Jb _ q
 obtain⟨T,id,hT,ht,hg⟩:=hr { s3 with heap:=s3.heap.push { cls := .type "slice",data := .fields #[vl,vu,.none] } } σ H3 x v vl vu l u s3.heap.objs.size Q I4 r1 (Heap.IsSliceOf.new ..) pl pu q3
 show wpAny (model X.prog X.w) X.A (subscriptTail e (.Slice lo hi none p2) v (.ref s3.heap.objs.size)) (EP X pins σ Q) X.xe { s3 with heap:=s3.heap.push { cls := .type "slice",data := .fields #[vl,vu,.none] } }
 exact tail_any (ops:=[.ref s3.heap.objs.size,v]) ht hT hg (by with_unfolding_all rfl)
noncomputable def jT (xs:List V)(lo hi:Option Int):List V:=(xs.drop (HT.oQ xs.length 0 lo)).take (HT.oQ xs.length xs.length hi-HT.oQ xs.length 0 lo)
theorem l6 (xs:List V)(lo hi:Option Int):(jT xs lo hi).length<=xs.length:=by
 unfold jT
 rw[Um,Yr]
 omega
end
noncomputable def yM (n:Nat)(i:Int):Option Nat:=if 0<=i then (if i<n then some i.toNat else none) else if -(n:Int)<=i then some (i+n).toNat else none
noncomputable def Av {α:Type}(xs:List α)(i:Int):Option α:=(yM xs.length i).bind fun j=>xs[j]?
theorem rQ {n:Nat}{i:Int}{j:Nat}(h:yM n i=some j):seqIndex? i n=some j/\j<n /\ -(n:Int)<=i/\i<n:=by
 unfold yM at h
 by_cases h0:0<=i
 ·rw[if_pos h0] at h
  by_cases h1:i<n
  ·rw[if_pos h1] at h
   have e:i.toNat=j:=Option.some.inj h
   exact⟨by rw[seqIndex_of h0 h1,e],by omega,by omega,h1⟩
  ·rw[if_neg h1] at h;cases h
 ·rw[if_neg h0] at h
  by_cases h1: -(n:Int)<=i
  ·rw[if_pos h1] at h
   have e:(i+n).toNat=j:=Option.some.inj h
   exact⟨by rw[seqIndex_neg (by omega) h1,e],by omega,h1,by omega⟩
  ·rw[if_neg h1] at h;cases h
theorem mS {α:Type}{xs:List α}{i:Int}{v: α}(h:Av xs i=some v):∃j,seqIndex? i xs.length=some j/\xs[j]? = some v/\j<xs.length /\ -(xs.length:Int)<=i/\i<xs.length:=by
 unfold Av at h
 cases e:yM xs.length i with
 | none=>rw[e] at h;cases h
 | some j=>
  rw[e] at h
  obtain⟨h1,h2,h3,h4⟩:=rQ e
  exact⟨j,h1,h,h2,h3,h4⟩
theorem qJ {α:Type}{xs:List α}{j:Nat}{v: α}(h:xs[j]? = some v):Av xs (j:Int)=some v:=by
 have hj:j<xs.length:=(Jp.mp h).1
 have e:yM xs.length (j:Int)=some j:=by
  unfold yM
  rw[if_pos (by omega),if_pos (by omega)];simp
 unfold Av;rw[e];exact h
def DQ (b:Expr):Prop:=∀o i,subscripted b false o i=operate [o,i] (getItem o i)
def C8 (X:Cx)(r:R2):Prop:=
 ∀ ⦃value slice:Expr⦄ ⦃pins:List (Addr×Obj)⦄ (s:Shared) (σ:St) (H:Hp) (x y:V) (v u:Value) (Q:VK),Inv X pins σ H s->RelV x v->RelV y u->r x y H Q ->
  subscripted slice false v u=operate [v,u] (getItem v u)->wpAny (model X.prog X.w) X.A (subscriptTail value slice v u) (EP X pins σ Q) X.xe s
def FJ (X:Cx)(id:String)(r:V->List V->Hp->VK->Prop):Prop:=
 ∀ ⦃pins:List (Addr×Obj)⦄ (s:Shared) (σ:St) (H:Hp) (x:V) (xs:List V) (v:Value) (us:List Value) (Q:VK),Inv X pins σ H s->RelV x v->Vals xs us->r x xs H Q ->
  wpAny (model X.prog X.w) X.A (call (.builtin id) (v::us)) (EP X pins σ Q) X.xe s
section
variable {X:Cx}{a b:Expr}{ta tb:TE}{pos:Pos}
theorem C8.or {r r':R2}(h:C8 X r)(h':C8 X r'):C8 X (fun x y H Q=>r x y H Q∨r' x y H Q):=by
 intro value slice pins s σ H x y v u Q I rx ry q hs
 rcases q with q|q
 ·exact h s σ H x y v u Q I rx ry q hs
 ·exact h' s σ H x y v u Q I rx ry q hs
theorem aV {r:R2}(hr:C8 X r)(ha:PE X a ta)(hb:PE X b tb)(hs:DQ b):PE X (.Subscript a b pos) (K2 r ta tb):=by
 intro pins s σ H Q I h
 exact Subscript_ (G0 ha hb I h fun v u s2 x y H2 I2 rx ry q=>hr s2 σ H2 x y v u Q I2 rx ry q (hs _ _))
def Lj (K:Ja):R2:=fun x y H Q=>rX fun p xs i v=>x = .ref p/\y = .int i/\aM K H p xs/\Av xs i=some v/\Q v H
def K8 (K:Ja):R2:=fun x y H Q=>rX fun p xs i v=>x = .ref p/\y = .int i/\cE K H p xs/\Av xs i=some v/\Q v H
def LB:R2:=fun x y H Q=>mI fun z i c=>x = .str z/\y = .int i/\z.length<=sizeLine/\Av z.cps.toList i=some c/\Q (.str ⟨#[c]⟩) H
theorem DP:C8 X (Lj X.K):=by
 intro value slice pins s σ H x y v u Q I rx ry h hs
 obtain⟨p,xs,i,z,rfl,rfl,hq,he,q⟩:=h
 cases rx
 obtain⟨t,rfl⟩:=ry
 obtain⟨aA,r,pl,hz⟩:=I.list hq
 obtain⟨j,h1,h2,h3,h4,h5⟩:=mS he
 obtain⟨w,ew,rw'⟩:=r.get h2
 have hl:=r.length
 have hn:=lq
 have fin:EP X pins σ Q w s:=⟨z,H,I,rw',q⟩
 by_cases h0:0<=i
 ·have hj:i.toNat=j:=by
   rw[seqIndex_of h0 h5] at h1
   exact Option.some.inj h1
  exact item_listR pl.isList h0 (by omega) (by rw[hj];simpa using ew) fin hs
 ·have hj:(i+(aA.toArray.size:Int)).toNat=j:=by
   rw[seqIndex_neg (by omega) h4] at h1
   rw[Jr,<-hl]
   exact Option.some.inj h1
  exact subscriptTail_builtinR (x:=w) pl.isList.typeIs slot_list_getitem.lookup
   (wpAny_getItem_list_neg (Q:=fun r s'=>r=w/\EP X pins σ Q r s') pl.isList (by omega) (by rw[Jr]<;>omega) (by omega) (by rw[hj];simpa using ew) ⟨rfl,fin⟩) hs
theorem Iq:C8 X (K8 X.K):=by
 intro value slice pins s σ H x y v u Q I rx ry h hs
 obtain⟨p,xs,i,z,rfl,rfl,hq,he,q⟩:=h
 cases rx
 obtain⟨t,rfl⟩:=ry
 obtain⟨aA,r,pl,hz⟩:=I.tuple hq
 obtain⟨j,h1,h2,h3,h4,h5⟩:=mS he
 obtain⟨w,ew,rw'⟩:=r.get h2
 have hl:=r.length
 have hn:=lq
 have fin:EP X pins σ Q w s:=⟨z,H,I,rw',q⟩
 exact subscriptTail_builtinR (x:=w) pl.typeIs slot_tuple_getitem.lookup
  (getItem_tuple (j:=j) (Q:=fun r s'=>r=w/\EP X pins σ Q r s') pl (by omega) (by omega) (by rw[Jr,<-hl];exact h1) (by simpa using ew) ⟨rfl,fin⟩) hs
theorem GG:C8 X LB:=by
 intro value slice pins s σ H x y v u Q I rx ry h hs
 obtain⟨z,i,c,rfl,rfl,hz,he,q⟩:=h
 obtain⟨t,rfl⟩:=rx
 obtain⟨t',rfl⟩:=ry
 obtain⟨j,h1,h2,h3,h4,h5⟩:=mS he
 have hl:z.cps.toList.length=z.length:=by simp[Str.length]
 rw[hl] at h1 h4 h5
 have hn:=lq
 exact tail_any (typeIs_str s z t) slot_str_getitem.lookup (getItem_str (c:=c) (by
  have e1:decide (i < -(2^63:Int))=false:=decide_eq_false (by omega)
  have e2:decide (i>=2^63)=false:=decide_eq_false (by omega)
  rw[e1,e2,Bool.or_false]) (by rw[h1];simpa using h2) ⟨.str ⟨#[c]⟩,H,I.tok _,⟨_,rfl⟩,q⟩) hs
def Ra (K:Ja):R2:=fun x y H Q=>Lj K x y H Q∨K8 K x y H Q∨LB x y H Q
theorem Ge:C8 X (Ra X.K):=DP.or (Iq.or GG)
theorem vp (aA:List Value)(n j:Nat)(u:Value):Obj.mapSeq (·.setIfInBounds j u) { cls := .type "list",data := .seq aA.toArray n } = { cls := .type "list",data := .seq (aA.set j u).toArray n }:=by
 simp[Obj.mapSeq]
theorem Inv.lst {pins:List (Addr×Obj)}{σ:St}{H:Hp}{s:Shared}{p:Addr}{xs:List V}(I:Inv X pins σ H s)(h:H p=some (.lst xs)):
  ∃(aA:List Value) (n:Nat),Vals xs aA/\s.heap.get? p=some { cls := .type "list",data := .seq aA.toArray n } /\ xs.length<=sizeLine:=by
 obtain⟨z,aA,n,r,e⟩:=I.bB p _ h
 exact⟨aA,n,r,e,z⟩
theorem Inv.GX {pins:List (Addr×Obj)}{σ:St}{H:Hp}{s:Shared}{p:Addr}{xs ys:List V}{aA its':List Value}{n n':Nat}{f:Obj->Obj}(I:Inv X pins σ H s)(h:H p=some (.lst xs))
  (ho:s.heap.get? p=some { cls := .type "list",data := .seq aA.toArray n }) (hf:f { cls := .type "list",data := .seq aA.toArray n } = { cls := .type "list",data := .seq its'.toArray n' }) (r:Vals ys its') (hz:ys.length<=sizeLine) (t:Nat) :
  Inv X pins σ (upd H p (.lst ys)) { s with heap:=s.heap.update p f,toks:=t }:=by
 have e:(s.heap.update p f).get? p=some { cls := .type "list",data := .seq its'.toArray n' }:=by
  rw[Jz f ho (by rw[hf]<;>rfl),hf]
 refine I.write (x:=p) (e:=p) (by rw[h];trivial) (.inl rfl) (fun b u hb q=>(Ua _ _ (Ne.symm hb)).trans q) ⟨_,e⟩ ?_
 exact⟨hz,its',n',r,e⟩
def KA:V->V->V->Hp->(Hp->Prop)->Prop:=fun o i v H Q=>rX fun p xs k j=>o = .ref p/\i = .int k/\H p=some (.lst xs)/\yM xs.length k=some j/\Q (upd H p (.lst (xs.set j v)))
theorem set_list:Mp X KA:=by
 intro pins s σ H o i v ov iv u Q I ro ri rv h
 obtain⟨p,xs,k,j,rfl,rfl,hp,hj,q⟩:=h
 cases ro
 obtain⟨t,rfl⟩:=ri
 obtain⟨aA,n,r,ho,hz⟩:=I.lst hp
 obtain⟨h1,h2,h3,h4⟩:=rQ hj
 have hl:=r.length
 have hn:=lq
 have I':Inv X pins σ (upd H p (.lst (xs.set j v))) { s with heap:=s.heap.update p (Obj.mapSeq (·.setIfInBounds j u)) }:=
  I.GX hp ho (vp aA n j u) (r.set rv j) (by rw[U8];exact hz) s.toks
 by_cases h0:0<=k
 ·have hk:k.toNat=j:=by
   rw[seqIndex_of h0 h4] at h1
   exact Option.some.inj h1
  exact PySem.W.ki_setAt ho h0 (by omega) (by rw[Jr,<-hl];exact h4) (by rw[hk];exact⟨_,I',q⟩)
 ·have hk:(k+(aA.toArray.size:Int)).toNat=j:=by
   rw[seqIndex_neg (by omega) h3] at h1
   rw[Jr,<-hl]
   exact Option.some.inj h1
  exact PySem.W.ki_setBack ho (by omega) (by rw[Jr,<-hl];exact h3) (by omega) (by rw[hk];exact⟨_,I',q⟩)
theorem rN (lo hi:Option Int)(n:Nat):(sliceBounds lo hi none n).1=((HT.oQ n 0 lo:Nat):Int)/\(sliceBounds lo hi none n).2.1=((HT.oQ n n hi:Nat):Int)/\(sliceBounds lo hi none n).2.2=1:=by
 refine⟨?_,?_,rfl⟩
 ·cases lo with
  | none=>simp[sliceBounds,HT.oQ]
  | some i=>
   simp only[sliceBounds,HT.oQ,Option.getD_none,show(1:Int)>0 by decide,if_true]
   by_cases h:i<0
   ·simp only[h,if_true]<;>omega
   ·simp only[h,if_false]<;>omega
 ·cases hi with
  | none=>simp[sliceBounds,HT.oQ]
  | some i=>
   simp only[sliceBounds,HT.oQ,Option.getD_none,show(1:Int)>0 by decide,if_true]
   by_cases h:i<0
   ·simp only[h,if_true]<;>omega
   ·simp only[h,if_false]<;>omega
theorem pd (aA:List Value)(lo hi:Option Int):slicePick aA.toArray lo hi none=((aA.drop (HT.oQ aA.length 0 lo)).take (HT.oQ aA.length aA.length hi-HT.oQ aA.length 0 lo)).toArray:=by
 obtain⟨h1,h2,h3⟩:=rN lo hi aA.toArray.size
 unfold slicePick
 rw[h1,h2,h3]
 simp only[sliceRange_one,pick_run,Jr]<;>rfl
def Ij (K:Ja):V->Option Int->Option Int->Hp->VK->Prop:=fun x lo hi H Q=>fE fun a xs=>x = .ref a/\aM K H a xs/\∀p,H p=none->Q (.ref p) (upd H p (.lst (jT xs lo hi)))
theorem EJ:C6 X (Ij X.K):=by
 intro pins s σ H x v vl vu lo hi sl Q I rx hs pl pu h
 obtain⟨a,xs,rfl,hx,q⟩:=h
 cases rx
 obtain⟨aA,r,ht,hz⟩:=I.list hx
 have hlen:=r.length
 refine⟨"list",_,slot_list_getitem.lookup,ht.isList.typeIs,?_⟩
 refine wpAny_getItem_list_slice ht.isList hs pl pu .none (by simp) ?_ (by rw[Jr]<;>omega)
 rw[pd,<-hlen]
 refine⟨.ref s.heap.objs.size,_,I.laid (t':=s.toks) (o := .lst (jT xs lo hi)) (fun b ob q=>Jb _ q) (Jd _) ?_,rfl,q _ (I.bB.fresh (Jd _))⟩
 exact⟨Jg (l6 xs lo hi) hz,_,0,(r.drop (HT.oQ xs.length 0 lo)).take (HT.oQ xs.length xs.length hi-HT.oQ xs.length 0 lo),Ji _ rfl⟩
theorem bN.or {f:Value}{r r':List V->Hp->VK->Prop}(h:bN X f r)(h':bN X f r'):bN X f (fun xs H Q=>r xs H Q∨r' xs H Q):=by
 intro pins s σ H xs us Q I rs q
 rcases q with q|q
 ·exact h s σ H xs us Q I rs q
 ·exact h' s σ H xs us Q I rs q
theorem rO:bN X (.type "list") (fun xs H Q=>∃p ys,xs=[.ref p]/\(aM X.K H p ys∨cE X.K H p ys)/\∀l,H l=none->Q (.ref l) (upd H l (.lst ys))):=by
 intro pins s σ H xs us Q I r h
 obtain⟨p,ys,rfl,hq,q⟩:=h
 obtain⟨u,rfl,rx⟩:=vals1 r
 cases rx
 have fin:∀(aA:List Value),Vals ys aA->ys.length<=sizeLine->∀(h':Heap) (c':Nat),(∀b o',s.heap.get? b=some o'->h'.get? b=some o') ->
   h'.get? s.heap.objs.size=some { cls := .type "list",dict:=none,data := .seq aA.toArray c',slots := #[] } -> EP X pins σ Q (.ref s.heap.objs.size) { s with heap:=h' }:=fun aA r' hz h' c' kp e=>
  ⟨.ref s.heap.objs.size,_,I.laid (t':=s.toks) kp (Jd _) (show bt X.prog X.w _ h' _ (.lst ys) from⟨hz,aA,c',r',e⟩),rfl,q _ (I.bB.fresh (Jd _))⟩
 rcases hq with hq|hq
 ·obtain⟨aA,r',pl,hz⟩:=I.list hq
  have hlen:=r'.length
  obtain⟨o,ho,hc,n,hd⟩:=pl.isList
  exact call_list_seq p (.inl rfl) ho hc hd (fun h' c' kp e=>fin aA r' hz h' c' kp e) (by simp only[Jr]<;>omega)
 ·obtain⟨aA,r',pl,hz⟩:=I.tuple hq
  have hlen:=r'.length
  obtain⟨o,ho,hc,n,hd⟩:=pl
  exact call_list_seq p (.inr rfl) ho hc hd (fun h' c' kp e=>fin aA r' hz h' c' kp e) (by simp only[Jr]<;>omega)
theorem pB:bN X (.type "tuple") (fun xs H Q=>∃p ys,xs=[.ref p]/\((aM X.K H p ys/\∀l,H l=none->Q (.ref l) (upd H l (.tup ys)))∨(cE X.K H p ys/\Q (.ref p) H))):=by
 intro pins s σ H xs us Q I r h
 obtain⟨p,ys,rfl,h⟩:=h
 obtain⟨u,rfl,rx⟩:=vals1 r
 cases rx
 rcases h with ⟨hq,q⟩|⟨hq,q⟩
 ·obtain⟨aA,r',pl,hz⟩:=I.list hq
  have hlen:=r'.length
  refine call_tuple_list pl.isList (fun h' kp =>?_) (by simp only[Jr]<;>omega)
  have I1:Inv X pins σ H { s with heap:=h' }:=I.kept (t':=s.toks) kp
  have I2:Inv X pins σ (upd H h'.objs.size (.tup ys)) { s with heap:=h'.push { cls := .type "tuple",data := .seq aA.toArray } }:=
   I1.laid (t':=s.toks) (fun b o e=>Jb _ e) (Jd _) (show bt X.prog X.w _ _ _ (.tup ys) from⟨hz,aA,r',ux.new _ _⟩)
  exact⟨.ref h'.objs.size,_,I2,rfl,q _ (I1.bB.fresh (Jd _))⟩
 ·obtain⟨aA,r',pl,hz⟩:=I.tuple hq
  exact call_tuple_same pl ⟨.ref p,H,I,rfl,q⟩
def Nt (K:Ja)(T:String)(x:V)(H:Hp):Prop:=match x with
 | .str _=>T = "str"
 | .int _=>T = "int"
 | .ref p=>(T = "list" /\ ∃xs,aM K H p xs)∨(T = "tuple" /\ ∃o,K.lookup p=some o/\o.cls = .type "tuple" /\ o.dict=none) ∨
   (T = "dict" /\ ((∃kvs,H p=some (.dK kvs))∨∃kvs,H p=some (.dT kvs)))∨(T = "set" /\ fE fun S n=>H p=some (.set S n))
 | _=>False
theorem wm {pins:List (Addr×Obj)}{σ:St}{H:Hp}{s:Shared}{T:String}{x:V}{v:Value}(I:Inv X pins σ H s)(r:RelV x v)(ty:Nt X.K T x H):
  s.TypeIs v T/\∀a,v = .ref a->∃ob,s.heap.get? a=some ob/\ob.dict=none:=by
 cases x with
 | str z=>
  obtain⟨t,rfl⟩:=r
  cases (show T = "str" from ty)
  exact⟨typeIs_str s z t,fun _ e=>nomatch e⟩
 | int i=>
  obtain⟨t,rfl⟩:=r
  cases (show T = "int" from ty)
  exact⟨typeIs_int s i t,fun _ e=>nomatch e⟩
 | ref p=>
  cases r
  rcases ty with ⟨rfl,xs,hq⟩|⟨rfl,o,hk,hc,hd⟩|⟨rfl,hk⟩|⟨rfl,S,n,hk⟩
  ·obtain⟨aA,_,pl,_⟩:=I.list hq
   refine⟨pl.isList.typeIs,fun a e =>?_⟩
   cases e
   obtain⟨o,n,e,c,hd,_⟩:=pl
   exact⟨o,e,hd⟩
  ·refine⟨⟨o,I.iA p o hk,hc⟩,fun a e =>?_⟩
   cases e
   exact⟨o,I.iA _ o hk,hd⟩
  ·have z:∃o,s.heap.get? p=some o/\o.ExactDict:=by
    rcases hk with ⟨kvs,hk⟩|⟨kvs,hk⟩
    ·obtain⟨_,_,_,_,o,_,_,e,ex,_⟩:=I.bB p _ hk
     exact⟨o,e,ex⟩
    ·obtain⟨_,_,_,_,o,_,_,e,ex,_⟩:=I.bB p _ hk
     exact⟨o,e,ex⟩
   obtain⟨o,e,ex⟩:=z
   refine⟨⟨o,e,ex.1⟩,fun a e2 =>?_⟩
   cases e2
   exact⟨o,e,ex.2.1⟩
  ·obtain⟨o,_,_,_,e,ex,_⟩:=I.bB p _ hk
   refine⟨⟨o,e,ex.1⟩,fun a e2 =>?_⟩
   cases e2
   exact⟨o,e,ex.2.1⟩
 | _=>exact False.elim ty
def Lp (K:Ja)(T:String)(r:V->List V->Hp->VK->Prop)(to:TE):TE:=fun σ H Q=>to σ H fun x H1=>Nt K T x H1/\r x [] H1 Q
def Rt (K:Ja)(T:String)(r:V->List V->Hp->VK->Prop)(to:TE)(t:TA):TE:=fun σ H Q=>to σ H fun x H1=>Nt K T x H1/\t σ H1 fun xs H2=>r x xs H2 Q
variable {o e:Expr}{es:List Expr}{to:TE}{t:TA}{name:Str}{apos eg:Pos}{T id:String}{r:V->List V->Hp->VK->Prop}
theorem Gw (pa:PlainAttrs T)(slot:Slot T name id)(Hs:typeOf (.builtin id)=pure (.type "method_descriptor"))(hm:FJ X id r)(ho:PE X o to)
  (kg:attributeBase o name X.env (eval o X.env)=eval o X.env:=by rfl) (kr:(apos.endLine==eg.line)=true:=by rfl):PE X (.Call (.Attribute o name apos) [] [] eg) (Lp X.K T r to):=by
 intro pins s σ H Q I h
 refine wpAny_Call_method0_late kg kr (bG (ho s σ H _ I h) fun v s1 hz_ =>?_)
 refine aj.el hz_ _ ?_
 clear hz_
 rintro x H1 I1 r1 ⟨ty,q1⟩
 obtain⟨h1,h2⟩:=wm I1 r1 ty
 exact⟨T,id,pa,slot,Hs,h1,h2,Calls.callWith_builtin rfl (PySem.evalArgs_none (hm s1 σ H1 x [] v [] Q I1 r1 .nil q1))⟩
theorem Ll (pa:PlainAttrs T)(slot:Slot T name id)(Hs:typeOf (.builtin id)=pure (.type "method_descriptor"))(hm:FJ X id r)(ho:PE X o to)(ha:PA X (e::es) t)
  (kg:attributeBase o name X.env (eval o X.env)=eval o X.env:=by rfl)
  (yq:((backTo eg (starEach (e::es) X.env)).all (fun x => !x.1)&&(backToKw eg (keywordEach [] X.env)).all (fun x=>x.1.isSome)
   && decide ((e::es).length+([]:List Keyword).length+(if ([]:List Keyword).isEmpty then 0 else 1)<30))=true:=by rfl)
  (kr:(apos.endLine==eg.line)=true:=by rfl) (hs:starEach (e::es) X.env=(false,eval e X.env)::starEach es X.env:=by rfl) (vc:(backTo eg (starEach es X.env)).any (·.1)=false:=by rfl) :
  PE X (.Call (.Attribute o name apos) (e::es) [] eg) (Rt X.K T r to t):=by
 intro pins s σ H Q I h
 refine wpAny_Call_method_late kg yq kr rfl (bG (ho s σ H _ I h) fun v s1 hz_ =>?_)
 refine aj.el hz_ _ ?_
 clear hz_
 rintro x H1 I1 r1 ⟨ty,q1⟩
 obtain⟨h1,h2⟩:=wm I1 r1 ty
 refine⟨T,id,pa,slot,Hs,h1,h2,?_⟩
 have hA:=ha (pos:=eg) s1 σ H1 _ I1 q1
 rw[hs] at hA ⊢
 refine Calls.callWith_builtin (by show(false||(backTo eg (starEach es X.env)).any (·.1))=false;rw[vc]<;>rfl) (Calls.evalArgs_plain ?_)
 exact bG hA fun us s2 hz_=>aj.el hz_ _ fun vs H2 I2 r2 q2=>hm s2 σ H2 x vs v us Q I2 r1 r2 q2
end
def DJ (X:Cx)(id:String)(r:V->List V->Hp->VK->Prop):Prop:=
 ∀ ⦃pins:List (Addr×Obj)⦄ (s:Shared) (σ:St) (H:Hp) (x:V) (xs:List V) (v:Value) (us:List Value) (Q:VK),Inv X pins σ H s->RelV x v->Vals xs us->r x xs H Q ->
  wpAny (model X.prog X.w) X.A (call (.builtin id) (v::us)) (EP X pins σ Q) X.xe s
theorem Vals.hd {x:V}{xs:List V}{us:List Value}(h:Vals (x::xs) us):∃u r,us=u::r/\RelV x u/\Vals xs r:=by
 cases h with|cons a b=>exact⟨_,_,rfl,a,b⟩
theorem Vals.one {x:V}{us:List Value}(h:Vals [x] us):∃u,us=[u]/\RelV x u:=by
 obtain⟨u,r,rfl,a,h⟩:=h.hd
 cases h
 exact⟨_,rfl,a⟩
theorem Vals.two {x y:V}{us:List Value}(h:Vals [x,y] us):∃u v,us=[u,v]/\RelV x u/\RelV y v:=by
 obtain⟨u,r,rfl,a,h⟩:=h.hd
 obtain⟨v,rfl,b⟩:=h.one
 exact⟨_,_,rfl,a,b⟩
theorem Vals.eraseIdx:∀{xs:List V} {us:List Value} (i:Nat),Vals xs us->Vals (xs.eraseIdx i) (us.eraseIdx i)
 | _,_,_,.nil =>.nil
 | _,_,0,.cons _ t=>t
 | _,_,i+1,.cons r t =>.cons r (Vals.eraseIdx i t)
theorem Vals.rep {xs:List V}{us:List Value}(h:Vals xs us):∀k:Nat,Vals (Jv k xs).flatten (Jv k us).flatten
 | 0 =>.nil
 | k+1=>by
  rw[Y5,Y5,List.flatten_cons,List.flatten_cons]
  exact Vals.append h (Vals.rep h k)
theorem qe {α:Type}:∀(l:List α) (i:Nat),(l.eraseIdx i).length<=l.length
 | [],_=>Jd _
 | _::_,0=>U1 _
 | _::r,i+1=>Y9 (qe r i)
theorem foldl_rep (aA:List Value):∀(k:Nat) (acc:List Value),
  List.foldl (fun x1 x2=>x1++x2) acc.toArray (Jv k aA.toArray)=(acc++(Jv k aA).flatten).toArray
 | 0,acc=>by simp
 | k+1,acc=>by
  have e:acc.toArray++aA.toArray=(acc++aA).toArray:=by simp
  have e2:(acc++aA)++(Jv k aA).flatten=acc++(Jv (k+1) aA).flatten:=by
   rw[Y5,List.flatten_cons,List.append_assoc]
  rw[<-e2,<-foldl_rep aA k (acc++aA),<-e,Y5,List.foldl_cons]
section
variable {X:Cx}{pins:List (Addr×Obj)}{σ:St}{H:Hp}{s:Shared}{l b:Addr}{xs ys zs:List V}
theorem Inv.B2 {aA its':List Value}{n:Nat}{f:Array Value->Array Value}{t':Nat}(I:Inv X pins σ H s)(hH:H l=some (.lst xs))
  (e:s.heap.get? l=some { cls := .type "list",data := .seq aA.toArray n }) (hf:f aA.toArray=its'.toArray) (hv:Vals ys its') (hz:ys.length<=sizeLine) :
  Inv X pins σ (upd H l (.lst ys)) { s with heap:=s.heap.update l (Obj.mapSeq f),toks:=t' }:=by
 have q:=PySem.IsL.update e f
 rw[hf] at q
 refine I.write (x:=l) (e:=l) (by rw[hH];exact trivial) (.inl rfl) (fun b' u hb hu=>(Ua s.heap (Obj.mapSeq f) (Ne.symm hb)).trans hu) ⟨_,q⟩ ?_
 exact⟨hz,its',_,hv,q⟩
theorem Inv.Lm {aA:List Value}{t':Nat}(I:Inv X pins σ H s)(hv:Vals ys aA)(hz:ys.length<=sizeLine):
  Inv X pins σ (upd H s.heap.objs.size (.lst ys)) { s with heap:=s.heap.push { cls := .type "list",data := .seq aA.toArray },toks:=t' }:=
 I.laid (fun _ _ q=>Jb _ q) (Jd _) ⟨hz,aA,0,hv,Ji _ rfl⟩
theorem Inv.fresh (I:Inv X pins σ H s):H s.heap.objs.size=none:=I.bB.fresh (Jd _)
theorem Inv.o7 (I:Inv X pins σ H s)(hH:H l=some (.lst xs)):xs.length<=sizeLine/\∃(aA:List Value) (n:Nat),Vals xs aA/\xs.length=aA.length/\s.heap.get? l=some { cls := .type "list",data := .seq aA.toArray n }:=by
 obtain⟨z,aA,n,r,e⟩:=I.bB l _ hH
 exact⟨z,aA,n,r,r.length,e⟩
theorem BA {n:Nat}(h:n<=sizeLine):Builtin.List.listTooLong n=false:=by
 unfold Builtin.List.listTooLong
 exact decide_eq_false (by omega)
end
section
variable {X:Cx}
def Dp:V->List V->Hp->VK->Prop:=fun x vs H Q=>mI fun l xs y=>x = .ref l/\vs=[y]/\H l=some (.lst xs)/\xs.length<sizeLine/\Q .non (upd H l (.lst (xs++[y])))
theorem zU:DJ X "list.append" Dp:=by
 intro pins s σ H x vs v us Q I rx rv h
 obtain⟨l,xs,y,rfl,rfl,hH,hz,q⟩:=h
 cases rx
 obtain⟨u,rfl,ru⟩:=rv.one
 obtain⟨z,aA,n,r,hl,e⟩:=I.o7 hH
 refine call_meets F.slot_list_append ⟨_,e,rfl⟩ F.entry_list_append (F.args_list_append_2 _ _) (PySem.list_append l aA.toArray n u (by rw[Jr];omega)) ⟨e,?_⟩
 refine⟨.non,_,I.B2 (its':=aA++[u]) hH e (by simp) (r.append (.cons ru .nil)) ?_,rfl,q⟩
 rw[Jq,List.length_singleton]
 omega
def GZ:V->List V->Hp->VK->Prop:=fun x vs H Q=>uR fun l xs i k y=>x = .ref l/\vs=[.int i]/\H l=some (.lst xs) /\ -(2^63)<=i/\i<2^63/\seqIndex? i xs.length=some k/\xs[k]? = some y/\Q y (upd H l (.lst (xs.eraseIdx k)))
theorem Cg:DJ X "list.pop" GZ:=by
 intro pins s σ H x vs v us Q I rx rv h
 obtain⟨l,xs,i,k,y,rfl,rfl,hH,h1,h2,hk,hy,q⟩:=h
 cases rx
 obtain⟨u,rfl,ru⟩:=rv.one
 obtain⟨t,rfl⟩:=ru
 obtain⟨z,aA,n,r,hl,e⟩:=I.o7 hH
 obtain⟨w,hw,rw'⟩:=r.get hy
 refine call_meets F.slot_list_pop ⟨_,e,rfl⟩ F.entry_list_pop (F.args_list_pop_2 _ _)
  (MeetsSeq.list_pop_at l aA.toArray n i t k w (fitsIndex_both h1 h2) (by rw[Jr,<-hl];exact hk) (by rw[<-Array.getElem?_toList];exact hw) (by rw[Jr];omega)) ⟨e,?_⟩
 refine⟨y,_,I.B2 (its':=aA.eraseIdx k) hH e ?_ (r.eraseIdx k) ?_,rw',q⟩
 ·show aA.toArray.eraseIdxIfInBounds k=(aA.eraseIdx k).toArray
  rw[List.eraseIdxIfInBounds_toArray]
 ·have:=qe xs k
  omega
def Mr:R2:=fun x y H Q=>rX fun l b xs zs=>x = .ref l/\y = .ref b/\H l=some (.lst xs)/\H b=some (.lst zs)/\xs.length+zs.length<=sizeLine/\∀p,H p=none->Q (.ref p) (upd H p (.lst (xs++zs)))
theorem IH:fL X (binaryOp .Add) Mr:=by
 intro pins s σ H x y v u Q I rx ry h
 obtain⟨l,b,xs,zs,rfl,rfl,hH,hB,hz,q⟩:=h
 cases rx
 cases ry
 obtain⟨z,aA,n,r,hl,e⟩:=I.o7 hH
 obtain⟨z2,its2,n2,r2,uX,e2⟩:=I.o7 hB
 refine PySem.P.add_list e e2 ?_ (by rw[Jr,Jr];omega)
 have ea:aA.toArray++its2.toArray=(aA++its2).toArray:=by simp
 rw[ea]
 exact⟨.ref _,_,I.Lm (t':=s.toks) (r.append r2) (by rw[Jq];omega),rfl,q _ I.fresh⟩
def KY:R2:=fun x y H Q=>mI fun l k xs=>x = .ref l/\y = .int k/\H l=some (.lst xs) /\ -(2^63)<=k/\k<2^63/\xs.length*k.toNat<=sizeLine /\
 ∀p,H p=none->Q (.ref p) (upd H p (.lst (Jv k.toNat xs).flatten))
theorem len_rep {α:Type}(xs:List α)(k:Nat):(Jv k xs).flatten.length=k*xs.length:=by
 induction k with
 | zero=>simp
 | succ k ih=>rw[Y5,List.flatten_cons,Jq,ih,Nat.succ_mul,Nat.add_comm]
theorem Gq:fL X (binaryOp .Mult) KY:=by
 intro pins s σ H x y v u Q I rx ry h
 obtain⟨l,k,xs,rfl,rfl,hH,h1,h2,hz,q⟩:=h
 cases rx
 obtain⟨t,rfl⟩:=ry
 obtain⟨z,aA,n,r,hl,e⟩:=I.o7 hH
 have hlen:aA.toArray.size*k.toNat<=sizeLine:=by rw[Jr,<-hl];exact hz
 have NT:¬aA.toArray.size*k.toNat>(2^63-1) / 8:=by
  have:(sizeLine:Nat)<=(2^63-1) / 8:=by decide
  omega
 have Iu:¬(!Builtin.List.listFitsIndex k)=true:=by
  rw[fitsIndex_both h1 h2]
  exact Jt
 have L7:¬Builtin.List.listTooLong (aA.toArray.size*k.toNat)=true:=by
  rw[BA hlen]
  exact Jt
 have Om:List.foldl (fun x1 x2=>x1++x2) #[] (Jv (if aA.toArray.isEmpty=true then 0 else k.toNat) aA.toArray)=(Jv k.toNat aA).flatten.toArray:=by
  have f0:∀m:Nat,List.foldl (fun x1 x2=>x1++x2) #[] (Jv m aA.toArray)=(Jv m aA).flatten.toArray:=fun m=>by
   have:=foldl_rep aA m []
   rw[List.nil_append] at this
   exact this
  rw[f0]
  cases aA with
  | nil=>simp
  | cons a r'=>rw[if_neg (by simp)]
 refine wpAny_binaryOp_repeat_ref (T := "list") (U := "int") (by decide) ⟨_,e,rfl⟩ (fun s'=>typeIs_int s' k t) noFill_list_mul F.fills_int_mul F.slot_int_rmul repeat_list F.slot_int_index.lookup
  (call_meets F.slot_int_rmul (typeIs_int s k t) F.entry_int_rmul (F.args_int_rmul_2 _ _) (int___rmul___int_list k t l aA.toArray n)
   ⟨e,rfl,⟨_,e,rfl⟩,call_meets F.slot_list_mul ⟨_,e,rfl⟩ F.entry_list_mul (F.args_list_mul_2 _ _) (AutoListH.list___mul___list_int_3 l aA.toArray n k t Iu NT L7) ⟨e,?_⟩⟩)
 rw[Om]
 exact⟨.ref _,_,I.Lm (t':=s.toks) (r.rep k.toNat) (by rw[len_rep,Nat.mul_comm];exact hz),rfl,q _ I.fresh⟩
end
section
variable {prog:Program}{w:World}{A:Around}{E:Value->Shared->Prop}{s:Shared}
set_option maxRecDepth 100000 in
end
end L2
namespace Att
open PySem PySem.W PySem.Calls PyProof.Rows
theorem mv {P:Params}{h:Heap}:∀(ns:List Int) (vs:List Value),WellAll P h vs (ns.map WData.int)->IntsAre vs ns:=by
 intro ns
 induction ns with
 | nil=>
  intro vs w
  rw[List.map_nil] at w
  cases w
  exact .nil
 | cons n ns ih=>
  intro vs w
  rw[Ub] at w
  cases w with
  | cons a b=>
   cases a
   exact .cons _ _ (ih _ b)
theorem yu {l:OpenLaw}{n:Nat}(hn:l.most=some n){P:Params}{h:Heap}{args:List WData}{vals:List Value}
  (DX:l.row.toRowW.claim.pre args=true) (QP:WellAll P h vals args) :
  ∃a vs ns,vals=[Value.ref a]/\args=[WData.list (ns.map WData.int)]/\h.get? a=some { cls := .type "list",data := .seq vs.toArray } /\ IntsAre vs ns/\ns.length<=n:=by
 have JE:WShape.hasAll [] args [.list .int]=true:=(pre_splitW DX).1
 have hc:l.pre.holds [] { args:=args } = true:=(pre_splitW DX).2
 obtain⟨d,r,rfl,h1,h2⟩:=hasAllW_cons JE
 obtain rfl:=hasAllW_nil h2
 obtain⟨xs,rfl,h3⟩:=hasW_list h1
 obtain⟨ns,rfl⟩:=items_int h3
 have hlen:ns.length<=n:=by
  unfold OpenLaw.pre at hc
  have h4:(WTm.not (.lt (.lit (.int (n:Int))) (.len (.arg 0)))).holds [] { args:=[.list (ns.map .int)] } = true:=by
   have h4:=(holds_andW hc).1
   rw[hn] at h4
   exact h4
  have h5:=condW_of h4 (w_not (w_lt w_lit (w_len_list (w_arg rfl))))
  rw[Je] at h5
  refine Nat.le_of_not_lt fun q =>?_
  have q':(n:Int)<((ns.length:Nat):Int):=by omega
  first
   | (rw[decide_eq_true q'] at h5;exact absurd h5 (by decide))
   | (simp at h5;omega)
 cases QP with
 | cons w1 w2=>
  cases w2
  cases w1 with
  | list ho gf=>exact⟨_,_,ns,rfl,rfl,ho,mv ns _ gf,hlen⟩
theorem za (l:OpenLaw)(args:List WData):l.row.toRowW.claim.post args (.bool true) args=true:=
 postW_of (r:=l.row.toRowW) (X:=(true==true))
  (show WShape.has [] (.bool true) .bool=true by first|rfl|decide|simp[WShape.has,WShape.arms,WShape.armsAll])
  (show(WTm.eq .res (.lit (.bool true))).value [] { args:=args,res:=some (.bool true),after:=args } = some (.bool (true==true)) from w_eq_bool (w_res rfl) w_lit) rfl
theorem uJ {l:OpenLaw}{n:Nat}{q:Program}{loose:List Str}{XP:(Str->Option Value)->Heap->Prop}{YP:World->Heap->Prop}{d:DefRec}
  (hn:l.most=some n) (KN:d.params.defaults=[])
  (call:∀(w:World) (s₀ s₁:Shared) (mg mb:Str->Option Value) (fa:Addr) (o:Obj) (pm cd doc:Value) (a:Addr) (vs:List Value) (ns:List Int),
   Ground q loose [] XP w s₀ mg mb s₁.heap->YP w s₁.heap ->
   s₁.heap.get? fa=some o->o.data = .func (docDef d.name d.params d.body d.scope pm cd doc)->s₁.heap.CodeRec cd d.name->mg d.name=some (.ref fa) ->
   s₁.heap.get? a=some { cls := .type "list",data := .seq vs.toArray } -> IntsAre vs ns->ns.length<=n->s₁.gens = #[] ->
   codeAny (model l.prog w) callerA (.call (.ref fa) ⟨[.ref a],[]⟩) (fun r s'=>r = .ok (.ret (.bool true))/\OldK s₁.heap s'.heap/\s'.os=s₁.os/\AllBare s'.gens) s₁) :
  WalkO q loose XP YP l.row.toRowW d [] (fun f vs=>PySem.call f vs):=by
 intro w s₀ s₁ mg mb G Y fa o pm cd doc dV kV ho hd vG hD hmg hg args vals as DX hlay hrd QP E6
 obtain rfl:dV = .none:=Dflts.none hD KN
 obtain rfl:kV = .none:=Dflts.noKw hD
 obtain⟨a,vs,ns,rfl,rfl,hobj,hints,hlen⟩:=yu hn DX QP
 refine enter_call (codeAny_mono (call w s₀ s₁ mg mb fa o pm cd doc a vs ns G Y ho (fd_plain hd) vG hmg hobj hints hlen hg) fun r s' hq =>?_)
 obtain⟨rfl,h2,h3,h4⟩:=hq
 exact⟨.inl ⟨.bool true,.bool true,[],rfl,fun _=>rfl,.bool true,za l _,fun _=>⟨List.Pairwise.nil,fun _ hm=>(nomatch hm)⟩⟩,h2,h3,h4⟩
end Att
namespace L2
open PySem PySem.Spec PyProof.Rows
theorem yn {vs:List Value}{ns:List Int}(h:IntsAre vs ns):Vals (ns.map V.int) vs:=by
 induction h with
 | nil=>exact .nil
 | cons n t h ih=>exact .cons ⟨t,rfl⟩ ih
def Hg (H:Hp):Prop:=∀b,H b=none∨fE fun o xs=>H b=some (.frz o (.lst xs))
theorem A6 {P:Program}{w:World}{K:Ja}{mg mb:Str->Option Value}{CX:yV}{k:Nat}{fa a:Addr}{fd:FuncData}{x:Str}{sp:Sp}{s₁:Shared}{vs:List Value}{ns:List Int}
  (KX:K.In s₁.heap) (AB:s₁.heap.Ns mainGlobals mg) (hb:s₁.heap.Ns builtinsNs mb) (Tt:∀x:Str,x ≠ "__name__" -> mb x=bootBuiltins x) (Qv:s₁.heap.NoLimit) (hg:s₁.gens = #[])
  (ha:s₁.heap.get? a=some { cls := .type "list",data := .seq vs.toArray }) (hi:IntsAre vs ns) (hl:ns.length<=sizeLine) (hr:dw k callerA)
  (F:∀base:Heap,K.In base->base.Ns mainGlobals mg->bC P w K mg base CX k fa fd [x] sp) (ME:∀(s:Shared) (u:Value),BindsTo s fd ⟨[u],[]⟩ [(x,u)])
  (C9:∀H:Hp,Hg H->aM K H a (ns.map V.int)->sp [.ref a] H (fun v _=>v = .bl true) fun _ _ _=>False)
  (O7:∀H e s',CX [] H s₁ (fun _ _ _=>False) e s'->False) :
  codeAny (model P w) callerA (.call (.ref fa) ⟨[.ref a],[]⟩) (fun r s'=>r = .ok (.ret (.bool true))/\OldK s₁.heap s'.heap/\s'.os=s₁.os/\AllBare s'.gens) s₁:=by
 have rv:=yn hi
 have OC:=hi.length
 have core:∀H:Hp,Hg H->aM K H a (ns.map V.int)->hZ P w H s₁.heap->(∀b,H b≠none->b=a)->(H a≠none->K.lookup a=none) ->
   codeAny (model P w) callerA (.call (.ref fa) ⟨[.ref a],[]⟩) (fun r s'=>r = .ok (.ret (.bool true))/\OldK s₁.heap s'.heap/\s'.os=s₁.os/\AllBare s'.gens) s₁:=by
  intro H hO hS bB hA hK
  have xf:∀{b:Addr} {o:Obj},s₁.heap.get? b=some o->H b=none->(rR s₁.heap H).get? b=some o:=fun e n=>AV e n
  have Kq:∀{b:Addr} {o:Obj} {es:Array DictEntry} {ep:Nat},s₁.heap.get? b=some o->o.data = .dict es ep->H b=none:=fun{b o es ep} e d=>by
   cases q:H b with
   | none=>rfl
   | some u=>
    have e':b=a:=hA b (by rw[q];simp)
    subst e'
    rw[ha] at e;cases e
    have d':Data.seq vs.toArray _=Data.dict es ep:=d
    cases d'
  have M1:∀{b:Addr} {m:Str->Option Value},s₁.heap.Ns b m->(rR s₁.heap H).Ns b m:=fun{b m} ⟨o,es,ep,e,d,r⟩=>⟨o,es,ep,xf e (Kq e d),d,r⟩
  have RX:K.In (rR s₁.heap H):=fun b o e=>xf (KX b o e) (by
   cases q:H b with
   | none=>rfl
   | some u=>
    have e':b=a:=hA b (by rw[q];simp)
    subst e'
    rw[hK (by rw[q];simp)] at e;cases e)
  have hM:Mod K mg (rR s₁.heap H):=⟨RX,M1 AB,⟨mb,M1 hb,Tt⟩,let ⟨mc,h1,h2⟩:=Qv; ⟨mc,M1 h1,h2⟩⟩
  have e0:wA P w K mg (rR s₁.heap H) callerA [] s₁ H:=⟨rfl,hM,fun b o e=>Ef e,Nat.le_of_eq (zk _ _),trivial,fun b hb=>absurd (show b∈([]:List Addr) from hb) (by simp),bB,.of_eq hg⟩
  refine codeAny_mono ((F _ RX (M1 AB)).run callerA [] s₁ H ⟨[.ref a],[]⟩ [.ref a] [.ref a] _ _ hr e0 (ME s₁ (.ref a)) (.cons rfl .nil) (C9 H hO hS)) fun r s' h =>?_
  cases r with
  | error e=>exact(O7 H e s' h).elim
  | ok fl=>
   cases fl with
   | next=>exact False.elim h
   | brk=>exact False.elim h
   | cont=>exact False.elim h
   | ret u=>
    obtain⟨v,H',os,bare,un,vN,r',q⟩:=h
    have q':v = .bl true:=q
    subst q'
    obtain rfl:u=Value.bool true:=r'
    refine⟨rfl,OldK.of_keep fun b o e =>?_,os,bare⟩
    cases q:H b with
    | none=>exact un.keep b o e q (by intro z;exact absurd (show b∈([]:List Addr) from z) (by simp)) (by simp)
    | some u=>
     rcases hO b with z|⟨ob,xs,z⟩
     ·rw[q] at z;cases z
     ·have z2:=un.iu b ob _ z
      obtain⟨e1,_⟩:=bB b _ z
      obtain⟨e2,_⟩:=vN b _ z2
      rw[e] at e1;cases e1
      exact e2
 cases hk:K.lookup a with
 | some o=>
  have e:=KX a o hk
  rw[ha] at e
  cases e
  refine core (fun _=>none) (fun _ =>.inl rfl) (.inr ⟨_,vs.toArray,_,hk,rfl,rfl,rfl,by rw[Jr,OC];exact hl,by simpa using rv⟩) (fun b u z=>by have z':(none:Option HO)=some u:=z;cases z') (fun b z=>absurd rfl z) fun z=>absurd rfl z
 | none=>
  refine core (fun b=>if b=a then some (.frz { cls := .type "list",data := .seq vs.toArray } (.lst (ns.map V.int))) else none) (fun b =>?_) (.inl (.inr ⟨{ cls := .type "list",data := .seq vs.toArray },if_pos rfl⟩)) (fun b u z =>?_) (fun b z =>?_) fun _=>hk
  ·by_cases hb:b=a
   ·exact .inr ⟨_,_,if_pos hb⟩
   ·exact .inl (if_neg hb)
  ·by_cases hb:b=a
   ·have z':=(if_pos hb).symm.trans z
    cases z'
    subst hb
    exact⟨ha,by rw[Je];exact hl,vs,_,rv,ha⟩
   ·have z':=(if_neg hb).symm.trans z
    cases z'
  ·by_cases hb:b=a
   ·exact hb
   ·exact absurd (if_neg hb) z
theorem EA {l:PySem.W.OpenLaw}{n k:Nat}{q:Program}{loose:List Str}{XP:(Str->Option Value)->Heap->Prop}{YP:World->Heap->Prop}{d:DefRec}{K:Params->Ja}{CX:World->yV}{sp:World->Sp}{x:Str}
  (hn:l.most=some n) (Hi:n<=sizeLine) (KN:d.params.defaults=[]) (hr:dw k callerA)
  (hY:∀(w:World) (h:Heap),YP w h->(K w.params).In h)
  (F:∀(w:World) (mg:Str->Option Value) (fa:Addr) (h:Heap),(K w.params).In h->h.Ns mainGlobals mg->mg d.name=some (.ref fa) ->
   ∃fd:FuncData,(∀(s:Shared) (u:Value),BindsTo s fd ⟨[u],[]⟩ [(x,u)]) /\
    ∀base:Heap,(K w.params).In base->base.Ns mainGlobals mg->bC l.prog w (K w.params) mg base (CX w) k fa fd [x] (sp w))
  (C9:∀(w:World) (H:Hp) (a:Addr) (ns:List Int),ns.length<=n->Hg H->aM (K w.params) H a (ns.map V.int)->sp w [.ref a] H (fun v _=>v = .bl true) fun _ _ _=>False)
  (O7:∀(w:World) (H:Hp) (s:Shared) (e:Value) (s':Shared),CX w [] H s (fun _ _ _=>False) e s'->False) :
  PySem.W.WalkO q loose XP YP l.row.toRowW d [] (fun f vs=>PySem.call f vs):=by
 refine Att.uJ hn KN fun w s₀ s₁ mg mb fa o pm cd doc a vs ns G Y ho hd vG hmg hobj hints hlen hg =>?_
 have KX:=hY w _ Y
 obtain⟨fd,hb,hF⟩:=F w mg fa _ KX G.T.g hmg
 exact A6 KX G.T.g G.T.b G.T.builtins G.T.nolimit hg hobj hints (Jg hlen Hi) hr hF hb (fun H hO hS=>C9 w H a ns hlen hO hS) fun H e s'=>O7 w H s₁ e s'
noncomputable def inClass (s:Stmt)(j:Nat):Stmt:=match s with
 | .ClassDef _ _ _ body _ _ _ _ _ _ _=>body.getD j (.Pass ⟨0,0,0,0⟩)
 | _ =>.Pass ⟨0,0,0,0⟩
noncomputable def eT (s:Stmt):Arguments:=match s with
 | .FunctionDef _ a _ _ _ _ _ _ _ _=>a
 | _=>{ posonlyargs:=[],args:=[],vararg:=none,kwonlyargs:=[],kw_defaults:=[],kwarg:=none,defaults:=[] }
noncomputable def dA (s:Stmt):List Stmt:=match s with
 | .FunctionDef _ _ b _ _ _ _ _ _ _=>b
 | _=>[]
noncomputable def av (s:Stmt):Scope:=match s with
 | .FunctionDef _ _ _ _ _ _ sc _ _ _=>sc
 | _=>{ kind := .function,names:=[],isGenerator:=false,isCoroutine:=false }
abbrev gG:yV:=fun _ _ _ _ _ _=>False
abbrev E0:XK:=fun _ _ _=>False
theorem FU {X:Cx}:Passes gG X E0:=fun _ _ _ _ _ _ _ h=>h.elim
structure cR (K:Ja)(x qual:Str)(st:Stmt)(f:Addr)(fd:FuncData):Prop where
 ex:∃(oc:Value) (od:Option Addr) (kV doc pm:Value) (an:Option Addr) (dI ct:Value) (yo:Array (Option Value)),
  fd=Y7 x qual (eT st) (dA st) (av st) .none kV doc pm an dI ct/\K.lookup f=some ⟨oc,od,.func fd,yo⟩/\PySem.W.codeIn K dI qual=true
 kp:Ye K (.ref f)=true
section
variable {P:Program}{w:World}{K:Ja}{mg:Str->Option Value}{base:Heap}
theorem cR.ok {x qual:Str}{st:Stmt}{f:Addr}{fd:FuncData}{N ps:List Str}{k:Nat}{sp:Sp}(F:cR K x qual st f fd)(S:aR N ps (av st))(len:∀vs H Q E,sp vs H Q E->vs.length=ps.length)
  (tD:∀(dI:Value) (A:Around) (outer:List Env) (s:Shared) (H:Hp) (vs:List V) (Q:VK) (E:XK),dw k (A.deeper (envOfC qual (av st) s.heap.objs.size f dI))->sp vs H Q E ->
   ∃t,uV (kJ gG P w K mg base N qual (av st) f dI A outer s H E).Nb (dA st) t/\t { nx:=fun _ H'=>Q .non H',rt:=Q } (start N vs) H):bC P w K mg base gG (k+1) f fd ps sp:=by
 obtain⟨oc,od,kV,doc,pm,an,dI,ct,yo,rfl,lk,vG⟩:=F.ex
 refine Fv lk vG S len fun A outer s H vs Q E hr C9 =>?_
 obtain⟨t,h,q⟩:=tD dI A outer s H vs Q E hr C9
 exact⟨t,h.Nb,q⟩
theorem cR.binds {x qual:Str}{st:Stmt}{f:Addr}{fd:FuncData}{ps:List Str}(F:cR K x qual st f fd)
  (h:∀(kV doc pm:Value) (an:Option Addr) (dI ct:Value) (us:List Value),us.length=ps.length->bindArgs (Y7 x qual (eT st) (dA st) (av st) .none kV doc pm an dI ct) ⟨us,[]⟩=pure (ps.zip us)):Binds K fd ps []:=by
 obtain⟨oc,od,kV,doc,pm,an,dI,ct,yo,rfl,lk,vG⟩:=F.ex
 exact .all (h kV doc pm an dI ct)
theorem bp {x qual:Str}{st:Stmt}{f:Addr}{oc:Value}{od an:Option Addr}{yo:Array (Option Value)}{kV doc pm dI ct:Value}(l:K.lookup f=some ⟨oc,od,.func (Y7 x qual (eT st) (dA st) (av st) .none kV doc pm an dI ct),yo⟩)
  (c:PySem.W.codeIn K dI qual=true) (k:Ye K (.ref f)=true):cR K x qual st f (Y7 x qual (eT st) (dA st) (av st) .none kV doc pm an dI ct):=⟨⟨oc,od,kV,doc,pm,an,dI,ct,yo,rfl,l,c⟩,k⟩
end
theorem ur {A:Around}{k:Nat}(hr:dw k A):A.units+1<cLine:=J3 (Nat.add_le_add_left (by decide:1<=64) _) hr.units
section
variable {X:Cx}
theorem pv (i:Nat){x:Str}{pos:Pos}(hN:X.N[i]? = some x:=by rfl)(hv:Ks X.env.scope x:=by first|exact Or.inl rfl|exact Or.inr (Or.inl rfl)|exact Or.inr (Or.inr rfl))(hd:(x==("__debug__" : Str))=false:=by decide)
  (vG:(x==("__classdict__" : Str))=false:=by decide):PE X (.Name x pos) (ph i):=IL hN hv hd vG
end
theorem bh {A B:Prop}(h:B):if false=true then A else B:=by
 rw[if_neg Jt]
 exact h
theorem bw {A B:Prop}(h:A):if true=true then A else B:=by
 rw[if_pos rfl]
 exact h
theorem cL {c A B:Prop}[Decidable c](h1:c->A)(h2:¬c->B):if c then A else B:=by
 by_cases h:c
 ·rw[if_pos h]
  exact h1 h
 ·rw[if_neg h]
  exact h2 h
def ak (H H':Hp):Prop:=∀b o,H b=some o->H' b=some o
theorem ak.refl (H:Hp):ak H H:=fun _ _ h=>h
theorem ak.trans {H H1 H2:Hp}(a:ak H H1)(b:ak H1 H2):ak H H2:=fun c o h=>b c o (a c o h)
theorem ak.free {H H':Hp}(e:ak H H'){l:Addr}(h:H' l=Option.none):H l=Option.none:=by
 cases q:H l with
 | none=>rfl
 | some o=>
  rw[e l o q] at h
  cases h
theorem ak.seq {K:Ja}{H H':Hp}{a:Addr}{xs:List V}(e:ak H H')(h:aM K H a xs):aM K H' a xs:=by
 rcases h with (h|⟨o,h⟩)|h
 ·exact .inl (.inl (e _ _ h))
 ·exact .inl (.inr ⟨o,e _ _ h⟩)
 ·exact .inr h
end L2
set_option maxHeartbeats 4000000
namespace Z
open PySem L2
noncomputable def top (i:Nat):Stmt:=PySem.Challenge.pw_oddlong_k29_forms_made_and_refused.main.body.getD i (.Pass ⟨0,0,0,0⟩)
noncomputable abbrev GV:Nat:=1
noncomputable abbrev JJ:Nat:=2
noncomputable abbrev IQ:Nat:=3
noncomputable abbrev Lk:Nat:=4
noncomputable abbrev JB:Nat:=5
noncomputable abbrev gL:Nat:=6
noncomputable abbrev JO:Nat:=7
noncomputable abbrev Ir:Nat:=8
noncomputable abbrev MI:Nat:=9
noncomputable abbrev lQ:Nat:=18
noncomputable abbrev lh:Nat:=19
noncomputable abbrev lD:Nat:=20
noncomputable abbrev lI:Nat:=21
noncomputable abbrev jj:Nat:=22
noncomputable abbrev lg:Nat:=24
noncomputable abbrev jH:Nat:=25
noncomputable abbrev vj:Nat:=26
noncomputable abbrev qQ:Nat:=27
noncomputable abbrev lB:Nat:=32
noncomputable abbrev gC:Nat:=33
noncomputable abbrev dR:Nat:=34
noncomputable abbrev eL:Nat:=35
noncomputable abbrev jf:Nat:=37
noncomputable abbrev jW:Nat:=38
noncomputable abbrev jI:Nat:=39
noncomputable abbrev iJ:Nat:=40
noncomputable abbrev jg:Nat:=41
noncomputable abbrev i9:Nat:=42
noncomputable abbrev iI:Nat:=43
noncomputable abbrev je:Nat:=44
noncomputable abbrev jL:Nat:=45
noncomputable abbrev ja:Nat:=46
noncomputable abbrev jd:Nat:=47
noncomputable abbrev fu:Nat:=48
noncomputable abbrev ie:Nat:=49
noncomputable abbrev dE:Nat:=50
noncomputable abbrev fy:Nat:=51
noncomputable abbrev ll:Nat:=52
noncomputable abbrev fC:Nat:=53
noncomputable abbrev jR:Nat:=54
noncomputable abbrev j0:Nat:=55
noncomputable abbrev gM:Nat:=56
end Z
set_option maxHeartbeats 0
namespace Z
open PySem PySem.W PySem.Calls PyProof.Rows L2
noncomputable def Me (s:Stmt):Pos:=match s with
 | .FunctionDef _ _ _ _ _ _ _ _ _ p=>p
 | _=>default
@[reducible] noncomputable def hs (s:String) (t:Nat):Value := .str (.ofString s) t
@[reducible] noncomputable def hy (P:Params) (s:String) (t:Nat) (v:Value):DictEntry:=⟨PyData.keyHash P (.ofString s),.str (.ofString s) t,v⟩
@[reducible] noncomputable def ht (xs:Array Value):Obj:=⟨.type "tuple",none,.seq xs 0,#[]⟩
@[reducible] noncomputable def hf (n q:String) (s:Stmt) (m:Value) (c:Addr):Obj:=⟨.type "function",none,.func (fnOf (.ofString n) (.ofString q) (eT s) (dA s) (av s) .none .none .none m none (.ref c) .none),#[]⟩
@[reducible] noncomputable def hc (n:String) (t1:Nat) (q:String) (t2 t3:Nat) (i1 i2 i3:Int) (r1:Addr) (b:Bool) (i4:Int) (r2 r3 r4 r5:Addr) (i5 i6:Int) (t4:Nat):Obj:=⟨.type "code",none,.fields #[.str (.ofString n) t1,.str (.ofString q) t2,.str (.ofString "/claim/cut.py") t3,.int i1 0,.int i2 0,.int 0 0,.int 0 0,.int i3 0,.ref r1,.bool b,.int i4 0,.ref r2,.none,.ref r3,.ref r4,.ref r5,.int i5 0,.int i6 0,.str (.ofString "/claim/cut.py") t4],#[]⟩
noncomputable def Qx:Params->Frag:=fun P=>
 (nat_lit 3,⟨(.type "dict"),none,(.dict #[hy P "__name__" 165 (hs "law_oddlong_k29_forms_made_and_refused" 593),hy P "__doc__" 166 .none,hy P "__package__" 167 .none,hy P "__loader__" 168 (.builtin "__main__.__loader__#opaque"),hy P "__spec__" 169 .none,hy P "__annotations__" 170 (.ref 6),hy P "__builtins__" 171 (.ref 4),hy P "__file__" 173 (hs "/claim/cut.py" 172),hy P "__cached__" 174 .none,hy P "OddError" 206 (.ref 24),hy P "TooFull" 222 (.ref 37),hy P "NoPlace" 238 (.ref 49),hy P "NoName" 263 (.ref 68),hy P "BadText" 288 (.ref 87),hy P "NoForm" 313 (.ref 106),hy P "TooFar" 338 (.ref 125),hy P "NoTarget" 363 (.ref 144),hy P "BadRow" 388 (.ref 163),hy P "SIGNS" 392 (hs "01" 391),hy P "SMALL_LETTERS" 394 (hs "abcdefghijklmnopqrstuvwxyz" 393),hy P "LONGEST_NAME" 396 (.int 8 395),hy P "SPOT_NAMES" 401 (.ref 166),hy P "SIZE_NAMES" 411 (.ref 167),hy P "JUMPS" 414 (.ref 168),hy P "PARTS" 452 (.ref 169),hy P "made_of" 460 (.ref 187),hy P "is_name" 467 (.ref 194),hy P "is_code" 474 (.ref 201),hy P "rest_of" 482 (.ref 208),hy P "is_number" 489 (.ref 215),hy P "is_book" 497 (.ref 220),hy P "is_entry" 504 (.ref 227),hy P "free" 511 (.ref 234),hy P "clash" 523 (.ref 241),hy P "LEAST_NEAR" 527 (.int 2 526),hy P "MOST_NEAR" 529 (.int 8 528),hy P "MOST_FAR" 531 (.int 16 530),hy P "Form" 569 (.ref 258),hy P "first_wrong" 580 (.ref 269),hy P "is_free_book_of" 586 (.ref 274),hy P "far_is_shorter" 592 (.ref 279),hy P "_law_begin" 602 (.ref 286),hy P "_law_take" 616 (.ref 293),hy P "_law_same" 622 (.ref 298),hy P "_law_mixed" 632 (.ref 305),hy P "_law_codes" 638 (.ref 310),hy P "_law_kinds" 644 (.ref 317),hy P "_law_sizes" 650 (.ref 324),hy P "_law_parts" 665 (.ref 331),hy P "_law_form" 672 (.ref 338),hy P "_law_class" 681 (.ref 345),hy P "_law_other" 691 (.ref 352),hy P "_law_other_row" 702 (.ref 359),hy P "_law_spoilt" 713 (.ref 366),hy P "_law_is_free_book" 719 (.ref 371),hy P "_law_is_number" 728 (.ref 378),hy P "_law_due" 743 (.ref 385),hy P "_law_bent_book" 755 (.ref 392),hy P "_law_bent" 769 (.ref 399),hy P "_law_told" 779 (.ref 406),hy P "law" 785 (.ref 411)] 61),#[]⟩) ::
 (nat_lit 23,⟨(.type "dict"),none,(.dict #[hy P "__module__" 196 (hs "oddlong.errors" 187),hy P "__firstlineno__" 200 (.int 2 199),hy P "__static_attributes__" 201 (.ref 22),hy P "__weakref__" 203 (.ref 25),hy P "__doc__" 204 .none] 3),#[]⟩) ::
 (nat_lit 24,⟨(.type "type"),none,(.cls ⟨(.ofString "OddError"),[(.type "ValueError")],[(.ref 24),(.type "ValueError"),(.type "Exception"),(.type "BaseException"),(.type "object")],23,(.ofString "OddError"),true,[],[(.ref 37),(.ref 49),(.ref 68),(.ref 87),(.ref 106),(.ref 125),(.ref 144),(.ref 163)],false,none,false⟩),#[(some (.ref 15)),none,(some (hs "OddError" 189)),(some (hs "OddError" 197)),(some (.builtin "ValueError.__new__")),(some (.bool true))]⟩) ::
 (nat_lit 37,⟨(.type "type"),none,(.cls ⟨(.ofString "TooFull"),[(.ref 24)],[(.ref 37),(.ref 24),(.type "ValueError"),(.type "Exception"),(.type "BaseException"),(.type "object")],36,(.ofString "TooFull"),true,[],[],false,none,false⟩),#[(some (.ref 28)),none,(some (hs "TooFull" 207)),(some (hs "TooFull" 215)),(some (.builtin "ValueError.__new__")),(some (.bool true))]⟩) ::
 (nat_lit 49,⟨(.type "type"),none,(.cls ⟨(.ofString "NoPlace"),[(.ref 24)],[(.ref 49),(.ref 24),(.type "ValueError"),(.type "Exception"),(.type "BaseException"),(.type "object")],48,(.ofString "NoPlace"),true,[],[],false,none,false⟩),#[(some (.ref 40)),none,(some (hs "NoPlace" 223)),(some (hs "NoPlace" 231)),(some (.builtin "ValueError.__new__")),(some (.bool true))]⟩) ::
 (nat_lit 68,⟨(.type "type"),none,(.cls ⟨(.ofString "NoName"),[(.ref 24)],[(.ref 68),(.ref 24),(.type "ValueError"),(.type "Exception"),(.type "BaseException"),(.type "object")],67,(.ofString "NoName"),true,[],[],false,none,false⟩),#[(some (.ref 52)),none,(some (hs "NoName" 239)),(some (hs "NoName" 247)),(some (.builtin "ValueError.__new__")),(some (.bool true))]⟩) ::
 (nat_lit 87,⟨(.type "type"),none,(.cls ⟨(.ofString "BadText"),[(.ref 24)],[(.ref 87),(.ref 24),(.type "ValueError"),(.type "Exception"),(.type "BaseException"),(.type "object")],86,(.ofString "BadText"),true,[],[],false,none,false⟩),#[(some (.ref 71)),none,(some (hs "BadText" 264)),(some (hs "BadText" 272)),(some (.builtin "ValueError.__new__")),(some (.bool true))]⟩) ::
 (nat_lit 102,hc "__init__" 301 "NoForm.__init__" 302 303 18 2 3 97 true 181 98 99 100 101 306 18 307) ::
 (nat_lit 103,hf "__init__" "NoForm.__init__" (inClass (top 6) 0) (hs "oddlong.errors" 187) 102) ::
 (nat_lit 105,⟨(.type "dict"),none,(.dict #[hy P "__module__" 296 (hs "oddlong.errors" 187),hy P "__firstlineno__" 300 (.int 16 299),hy P "__init__" 308 (.ref 103),hy P "__static_attributes__" 310 (.ref 104),hy P "__doc__" 311 .none] 2),#[]⟩) ::
 (nat_lit 106,⟨(.type "type"),none,(.cls ⟨(.ofString "NoForm"),[(.ref 24)],[(.ref 106),(.ref 24),(.type "ValueError"),(.type "Exception"),(.type "BaseException"),(.type "object")],105,(.ofString "NoForm"),true,[],[],false,none,false⟩),#[(some (.ref 90)),none,(some (hs "NoForm" 289)),(some (hs "NoForm" 297)),(some (.builtin "ValueError.__new__")),(some (.bool true))]⟩) ::
 (nat_lit 125,⟨(.type "type"),none,(.cls ⟨(.ofString "TooFar"),[(.ref 24)],[(.ref 125),(.ref 24),(.type "ValueError"),(.type "Exception"),(.type "BaseException"),(.type "object")],124,(.ofString "TooFar"),true,[],[],false,none,false⟩),#[(some (.ref 109)),none,(some (hs "TooFar" 314)),(some (hs "TooFar" 322)),(some (.builtin "ValueError.__new__")),(some (.bool true))]⟩) ::
 (nat_lit 144,⟨(.type "type"),none,(.cls ⟨(.ofString "NoTarget"),[(.ref 24)],[(.ref 144),(.ref 24),(.type "ValueError"),(.type "Exception"),(.type "BaseException"),(.type "object")],143,(.ofString "NoTarget"),true,[],[],false,none,false⟩),#[(some (.ref 128)),none,(some (hs "NoTarget" 339)),(some (hs "NoTarget" 347)),(some (.builtin "ValueError.__new__")),(some (.bool true))]⟩) ::
 (nat_lit 163,⟨(.type "type"),none,(.cls ⟨(.ofString "BadRow"),[(.ref 24)],[(.ref 163),(.ref 24),(.type "ValueError"),(.type "Exception"),(.type "BaseException"),(.type "object")],162,(.ofString "BadRow"),true,[],[],false,none,false⟩),#[(some (.ref 147)),none,(some (hs "BadRow" 364)),(some (hs "BadRow" 372)),(some (.builtin "ValueError.__new__")),(some (.bool true))]⟩) ::
 (nat_lit 166,ht #[(hs "a" 397),(hs "b" 398),(hs "c" 399),(hs "d" 400)]) ::
 (nat_lit 167,ht #[(hs "none" 402),(hs "one" 403),(hs "two" 404),(hs "three" 405),(hs "four" 406),(hs "five" 407),(hs "six" 408),(hs "seven" 409),(hs "eight" 410)]) ::
 (nat_lit 168,ht #[(hs "jump" 412),(hs "zero" 413)]) ::
 (nat_lit 169,⟨(.type "dict"),none,(.dict #[hy P "set" 415 (.ref 170),hy P "add" 418 (.ref 171),hy P "take" 421 (.ref 172),hy P "tell" 424 (.ref 173),hy P "ask" 426 (.ref 174),hy P "jump" 428 (.ref 175),hy P "zero" 430 (.ref 176),hy P "stop" 433 (.ref 177),hy P "farjump" 434 (.ref 178),hy P "farzero" 436 (.ref 179),hy P "skip" 439 (.ref 180)] 11),#[]⟩) ::
 (nat_lit 170,ht #[(hs "spot" 416),(hs "number" 417)]) ::
 (nat_lit 171,ht #[(hs "spot" 419),(hs "spot" 420)]) ::
 (nat_lit 172,ht #[(hs "spot" 422),(hs "spot" 423)]) ::
 (nat_lit 173,ht #[(hs "spot" 425)]) ::
 (nat_lit 174,ht #[(hs "spot" 427)]) ::
 (nat_lit 175,ht #[(hs "near" 429)]) ::
 (nat_lit 176,ht #[(hs "spot" 431),(hs "near" 432)]) ::
 (nat_lit 177,ht #[]) ::
 (nat_lit 178,ht #[(hs "far" 435)]) ::
 (nat_lit 179,ht #[(hs "spot" 437),(hs "far" 438)]) ::
 (nat_lit 180,ht #[(hs "many" 440)]) ::
 (nat_lit 186,hc "made_of" 453 "made_of" 454 455 40 2 3 181 true 181 182 183 184 185 458 40 459) ::
 (nat_lit 187,hf "made_of" "made_of" (top 18) (hs "oddlong.shared" 389) 186) ::
 (nat_lit 193,hc "is_name" 461 "is_name" 462 463 42 1 3 188 true 181 189 190 191 192 465 42 466) ::
 (nat_lit 194,hf "is_name" "is_name" (top 19) (hs "oddlong.shared" 389) 193) ::
 (nat_lit 200,hc "is_code" 468 "is_code" 469 470 44 1 3 195 true 181 196 197 198 199 472 44 473) ::
 (nat_lit 201,hf "is_code" "is_code" (top 20) (hs "oddlong.shared" 389) 200) ::
 (nat_lit 207,hc "rest_of" 475 "rest_of" 476 477 46 2 3 202 true 181 203 204 205 206 480 46 481) ::
 (nat_lit 208,hf "rest_of" "rest_of" (top 21) (hs "oddlong.shared" 389) 207) ::
 (nat_lit 214,hc "is_number" 483 "is_number" 484 485 52 1 3 209 true 181 210 211 212 213 487 52 488) ::
 (nat_lit 215,hf "is_number" "is_number" (top 22) (hs "oddlong.shared" 389) 214) ::
 (nat_lit 219,⟨(.type "code"),none,(.fields #[(hs "is_book" 492),(hs "is_book" 493),(hs "/claim/cut.py" 494),(.int 55 0),(.int 1 0),(.int 0 0),(.int 0 0),(.int 3 0),(.ref 216),(.bool true),(.int 181 0),(.ref 217),.none,.none,.none,(.ref 218),(.int 495 0),(.int 55 0),(hs "/claim/cut.py" 496)]),#[]⟩) ::
 (nat_lit 220,hf "is_book" "is_book" (top 24) (hs "oddlong.books" 490) 219) ::
 (nat_lit 226,hc "is_entry" 498 "is_entry" 499 500 61 1 3 221 true 181 222 223 224 225 502 61 503) ::
 (nat_lit 227,hf "is_entry" "is_entry" (top 25) (hs "oddlong.books" 490) 226) ::
 (nat_lit 233,hc "free" 505 "free" 506 507 63 1 3 228 true 181 229 230 231 232 509 63 510) ::
 (nat_lit 234,hf "free" "free" (top 26) (hs "oddlong.books" 490) 233) ::
 (nat_lit 240,hc "clash" 512 "clash" 513 514 65 1 3 235 true 181 236 237 238 239 521 65 522) ::
 (nat_lit 241,hf "clash" "clash" (top 27) (hs "oddlong.books" 490) 240) ::
 (nat_lit 254,hc "__init__" 544 "Form.__init__" 545 546 77 6 3 249 true 181 250 251 252 253 554 77 555) ::
 (nat_lit 255,hf "__init__" "Form.__init__" (inClass (top 32) 0) (hs "oddlong.forms" 524) 254) ::
 (nat_lit 257,⟨(.type "dict"),none,(.dict #[hy P "__module__" 539 (hs "oddlong.forms" 524),hy P "__firstlineno__" 543 (.int 75 542),hy P "__init__" 556 (.ref 255),hy P "__static_attributes__" 562 (.ref 256),hy P "__dict__" 564 (.ref 259),hy P "__weakref__" 566 (.ref 260),hy P "__doc__" 567 .none] 4),#[]⟩) ::
 (nat_lit 258,⟨(.type "type"),none,(.cls ⟨(.ofString "Form"),[(.type "object")],[(.ref 258),(.type "object")],257,(.ofString "Form"),true,[],[],false,none,false⟩),#[none,none,(some (hs "Form" 532)),(some (hs "Form" 540)),(some (.builtin "object.__new__")),(some (.bool true))]⟩) ::
 (nat_lit 268,hc "first_wrong" 570 "first_wrong" 571 572 86 5 3 263 true 181 264 265 266 267 578 86 579) ::
 (nat_lit 269,hf "first_wrong" "first_wrong" (top 33) (hs "oddlong.forms" 524) 268) ::
 (nat_lit 273,⟨(.type "code"),none,(.fields #[(hs "is_free_book_of" 581),(hs "is_free_book_of" 582),(hs "/claim/cut.py" 583),(.int 98 0),(.int 2 0),(.int 0 0),(.int 0 0),(.int 3 0),(.ref 270),(.bool true),(.int 181 0),(.ref 271),.none,.none,.none,(.ref 272),(.int 584 0),(.int 98 0),(hs "/claim/cut.py" 585)]),#[]⟩) ::
 (nat_lit 274,hf "is_free_book_of" "is_free_book_of" (top 34) (hs "oddlong.forms" 524) 273) ::
 (nat_lit 278,⟨(.type "code"),none,(.fields #[(hs "far_is_shorter" 587),(hs "far_is_shorter" 588),(hs "/claim/cut.py" 589),(.int 103 0),(.int 3 0),(.int 0 0),(.int 0 0),(.int 3 0),(.ref 275),(.bool true),(.int 181 0),(.ref 276),.none,.none,.none,(.ref 277),(.int 590 0),(.int 103 0),(hs "/claim/cut.py" 591)]),#[]⟩) ::
 (nat_lit 279,hf "far_is_shorter" "far_is_shorter" (top 35) (hs "oddlong.forms" 524) 278) ::
 (nat_lit 285,hc "_law_begin" 595 "_law_begin" 596 597 107 1 3 280 true 181 281 282 283 284 600 107 601) ::
 (nat_lit 286,hf "_law_begin" "_law_begin" (top 37) (hs "law_oddlong_k29_forms_made_and_refused" 593) 285) ::
 (nat_lit 292,hc "_law_take" 603 "_law_take" 604 605 112 2 3 287 true 181 288 289 290 291 614 112 615) ::
 (nat_lit 293,hf "_law_take" "_law_take" (top 38) (hs "law_oddlong_k29_forms_made_and_refused" 593) 292) ::
 (nat_lit 297,⟨(.type "code"),none,(.fields #[(hs "_law_same" 617),(hs "_law_same" 618),(hs "/claim/cut.py" 619),(.int 124 0),(.int 2 0),(.int 0 0),(.int 0 0),(.int 3 0),(.ref 294),(.bool true),(.int 181 0),(.ref 295),.none,.none,.none,(.ref 296),(.int 620 0),(.int 124 0),(hs "/claim/cut.py" 621)]),#[]⟩) ::
 (nat_lit 298,hf "_law_same" "_law_same" (top 39) (hs "law_oddlong_k29_forms_made_and_refused" 593) 297) ::
 (nat_lit 304,hc "_law_mixed" 623 "_law_mixed" 624 625 138 2 3 299 true 181 300 301 302 303 630 138 631) ::
 (nat_lit 305,hf "_law_mixed" "_law_mixed" (top 40) (hs "law_oddlong_k29_forms_made_and_refused" 593) 304) ::
 (nat_lit 309,⟨(.type "code"),none,(.fields #[(hs "_law_codes" 633),(hs "_law_codes" 634),(hs "/claim/cut.py" 635),(.int 144 0),(.int 3 0),(.int 0 0),(.int 0 0),(.int 3 0),(.ref 306),(.bool true),(.int 181 0),(.ref 307),.none,.none,.none,(.ref 308),(.int 636 0),(.int 144 0),(hs "/claim/cut.py" 637)]),#[]⟩) ::
 (nat_lit 310,hf "_law_codes" "_law_codes" (top 41) (hs "law_oddlong_k29_forms_made_and_refused" 593) 309) ::
 (nat_lit 316,hc "_law_kinds" 639 "_law_kinds" 640 641 154 0 3 311 true 181 312 313 314 315 642 154 643) ::
 (nat_lit 317,hf "_law_kinds" "_law_kinds" (top 42) (hs "law_oddlong_k29_forms_made_and_refused" 593) 316) ::
 (nat_lit 323,hc "_law_sizes" 645 "_law_sizes" 646 647 156 0 3 318 true 181 319 320 321 322 648 156 649) ::
 (nat_lit 324,hf "_law_sizes" "_law_sizes" (top 43) (hs "law_oddlong_k29_forms_made_and_refused" 593) 323) ::
 (nat_lit 330,hc "_law_parts" 651 "_law_parts" 652 653 158 1 3 325 true 181 326 327 328 329 663 158 664) ::
 (nat_lit 331,hf "_law_parts" "_law_parts" (top 44) (hs "law_oddlong_k29_forms_made_and_refused" 593) 330) ::
 (nat_lit 337,hc "_law_form" 666 "_law_form" 667 668 170 1 3 332 true 181 333 334 335 336 670 170 671) ::
 (nat_lit 338,hf "_law_form" "_law_form" (top 45) (hs "law_oddlong_k29_forms_made_and_refused" 593) 337) ::
 (nat_lit 344,hc "_law_class" 673 "_law_class" 674 675 172 1 3 339 true 181 340 341 342 343 679 172 680) ::
 (nat_lit 345,hf "_law_class" "_law_class" (top 46) (hs "law_oddlong_k29_forms_made_and_refused" 593) 344) ::
 (nat_lit 351,hc "_law_other" 682 "_law_other" 683 684 184 2 3 346 true 181 347 348 349 350 689 184 690) ::
 (nat_lit 352,hf "_law_other" "_law_other" (top 47) (hs "law_oddlong_k29_forms_made_and_refused" 593) 351) ::
 (nat_lit 358,hc "_law_other_row" 692 "_law_other_row" 693 694 190 2 3 353 true 181 354 355 356 357 700 190 701) ::
 (nat_lit 359,hf "_law_other_row" "_law_other_row" (top 48) (hs "law_oddlong_k29_forms_made_and_refused" 593) 358) ::
 (nat_lit 365,hc "_law_spoilt" 703 "_law_spoilt" 704 705 212 2 3 360 true 181 361 362 363 364 711 212 712) ::
 (nat_lit 366,hf "_law_spoilt" "_law_spoilt" (top 49) (hs "law_oddlong_k29_forms_made_and_refused" 593) 365) ::
 (nat_lit 370,⟨(.type "code"),none,(.fields #[(hs "_law_is_free_book" 714),(hs "_law_is_free_book" 715),(hs "/claim/cut.py" 716),(.int 222 0),(.int 2 0),(.int 0 0),(.int 0 0),(.int 3 0),(.ref 367),(.bool true),(.int 181 0),(.ref 368),.none,.none,.none,(.ref 369),(.int 717 0),(.int 222 0),(hs "/claim/cut.py" 718)]),#[]⟩) ::
 (nat_lit 371,hf "_law_is_free_book" "_law_is_free_book" (top 50) (hs "law_oddlong_k29_forms_made_and_refused" 593) 370) ::
 (nat_lit 377,hc "_law_is_number" 720 "_law_is_number" 721 722 236 3 3 372 true 181 373 374 375 376 726 236 727) ::
 (nat_lit 378,hf "_law_is_number" "_law_is_number" (top 51) (hs "law_oddlong_k29_forms_made_and_refused" 593) 377) ::
 (nat_lit 384,hc "_law_due" 729 "_law_due" 730 731 238 1 3 379 true 181 380 381 382 383 741 238 742) ::
 (nat_lit 385,hf "_law_due" "_law_due" (top 52) (hs "law_oddlong_k29_forms_made_and_refused" 593) 384) ::
 (nat_lit 391,hc "_law_bent_book" 744 "_law_bent_book" 745 746 253 2 3 386 true 181 387 388 389 390 753 253 754) ::
 (nat_lit 392,hf "_law_bent_book" "_law_bent_book" (top 53) (hs "law_oddlong_k29_forms_made_and_refused" 593) 391) ::
 (nat_lit 398,hc "_law_bent" 756 "_law_bent" 757 758 269 2 3 393 true 181 394 395 396 397 767 269 768) ::
 (nat_lit 399,hf "_law_bent" "_law_bent" (top 54) (hs "law_oddlong_k29_forms_made_and_refused" 593) 398) ::
 (nat_lit 405,hc "_law_told" 770 "_law_told" 771 772 285 1 3 400 true 181 401 402 403 404 777 285 778) ::
 (nat_lit 406,hf "_law_told" "_law_told" (top 55) (hs "law_oddlong_k29_forms_made_and_refused" 593) 405) ::
 (nat_lit 410,⟨(.type "code"),none,(.fields #[(hs "law" 780),(hs "law" 781),(hs "/claim/cut.py" 782),(.int 294 0),(.int 1 0),(.int 0 0),(.int 0 0),(.int 3 0),(.ref 407),(.bool true),(.int 181 0),(.ref 408),.none,.none,.none,(.ref 409),(.int 783 0),(.int 294 0),(hs "/claim/cut.py" 784)]),#[]⟩) ::
 (nat_lit 411,hf "law" "law" (top 56) (hs "law_oddlong_k29_forms_made_and_refused" 593) 410)::[]
noncomputable def Sw:List Addr:=3::23::24::37::49::68::87::102::103::105::106::125::144::163::166::167::168::169::170::171::172::173::174::175::176::177::178::179::180::186::187::193::194::200::201::207::208::214::215::219::220::226::227::233::234::240::241::254::255::257::258::268::269::273::274::278::279::285::286::292::293::297::298::304::305::309::310::316::317::323::324::330::331::337::338::344::345::351::352::358::359::365::366::370::371::377::378::384::385::391::392::398::399::405::406::410::411::[]
noncomputable def Ar:Program:=view PySem.Challenge.pw_oddlong_k29_forms_made_and_refused [1,2,3,4,5,6,7,8,9,11,12,13,14,15,16,17,18,19,20,21,22,24,25,26,27,29,30,31,32,33,34,35,37,38,39,40,41,42,43,44,45,46,47,48,49,50,51,52,53,54,55,56]
noncomputable def Dd:List Str:=[.ofString "PARTS"]
theorem GF:∀P,Sw=(Qx P).map (·.1):=fun _=>by kernel_rfl
noncomputable abbrev Ax:Hook:=kHook Qx Sw GF
noncomputable abbrev JM:Shared->Bool:=fun s=>xlAt Ar [] s&&recOk (RowW.records (OpenRow.toRowW (OpenLaw.row PySem.Challenge.rw_oddlong_k29_forms_made_and_refused))) s
theorem ED {p q:Program}{loose:List Str}{Xt:Shared->Bool}{α:Type}{Yf:Shared -> α}{Ya:World -> α}{N:Nat}{g0:Bool}(e:opening p=plainProg p.main.scope.names)(hN:Nat.ble 600 N=true)(f:∀s,fenceModules? p s=some s)
  (h:∀w:World,(fun os=>(topFrom treeTable p w N ⟨boot_heap w.params,Array.mk [],boot_drawn,boot_toks,os⟩).map fun s=>(openSeen q loose (importedModules p.main.body) Xt g0 s,Yf s))=fun _=>some (openGood q loose,Ya w)):LeftO p q loose Xt Yf Ya N g0:=fun w=>by
 obtain⟨⟨hp,gs,d,k,os⟩,e1,e2⟩:=Option.map_eq_some_iff.mp (boot_open e hN f w)
 obtain⟨rfl,rfl,rfl,rfl⟩:hp=boot_heap w.params/\gs=Array.mk []/\d=boot_drawn/\k=boot_toks:=by simpa using e2
 unfold openEnds
 rw[e1]
 exact congrFun (h w) os
theorem Dg:OpenLaw.wellSaid PySem.Challenge.rw_oddlong_k29_forms_made_and_refused=true:=by
 rw[PySem.W.Fast.te9446332074065402090]
 kernel_rfl
theorem CB (w:World):(fun os=>(topFrom treeTable PySem.Challenge.pw_oddlong_k29_forms_made_and_refused (w.withFollow "special-get-raises" false) 7388 ⟨boot_heap (w.withFollow "special-get-raises" false).params,Array.mk [],boot_drawn,boot_toks,os⟩).map fun s=>(openSeen Ar Dd (importedModules PySem.Challenge.pw_oddlong_k29_forms_made_and_refused.main.body) JM true s,Hook.obs Ax s))=fun _=>some (openGood Ar Dd,Hook.val Ax (w.withFollow "special-get-raises" false)):=by
 unfold topFrom
 rw[PySem.W.Fast.te14082659384304107361,PySem.W.Fast.te14364793385576792824,PySem.W.Fast.te4187177175401517315]
 kernel_rfl
theorem D8 (w:World):(fun os=>(topFrom treeTable PySem.Challenge.pw_oddlong_k29_forms_made_and_refused (w.withFollow "special-get-raises" true) 7388 ⟨boot_heap (w.withFollow "special-get-raises" true).params,Array.mk [],boot_drawn,boot_toks,os⟩).map fun s=>(openSeen Ar Dd (importedModules PySem.Challenge.pw_oddlong_k29_forms_made_and_refused.main.body) JM true s,Hook.obs Ax s))=fun _=>some (openGood Ar Dd,Hook.val Ax (w.withFollow "special-get-raises" true)):=by
 unfold topFrom
 rw[PySem.W.Fast.te14082659384304107361,PySem.W.Fast.te14364793385576792824,PySem.W.Fast.te4187177175401517315]
 kernel_rfl
theorem GH (w:World):(fun os=>(topFrom treeTable PySem.Challenge.pw_oddlong_k29_forms_made_and_refused (w) 7388 ⟨boot_heap (w).params,Array.mk [],boot_drawn,boot_toks,os⟩).map fun s=>(openSeen Ar Dd (importedModules PySem.Challenge.pw_oddlong_k29_forms_made_and_refused.main.body) JM true s,Hook.obs Ax s))=fun _=>some (openGood Ar Dd,Hook.val Ax (w)):=byRow2 "special-get-raises" (P:=fun w=>(fun os=>(topFrom treeTable PySem.Challenge.pw_oddlong_k29_forms_made_and_refused (w) 7388 ⟨boot_heap (w).params,Array.mk [],boot_drawn,boot_toks,os⟩).map fun s=>(openSeen Ar Dd (importedModules PySem.Challenge.pw_oddlong_k29_forms_made_and_refused.main.body) JM true s,Hook.obs Ax s))=fun _=>some (openGood Ar Dd,Hook.val Ax (w))) CB D8 w
theorem Ez:LeftO PySem.Challenge.pw_oddlong_k29_forms_made_and_refused Ar Dd JM (Hook.obs Ax) (Hook.val Ax) 7388 true:=ED rfl rfl (fun _=>rfl) GH
noncomputable def RK:DefRec:=⟨.ofString "law",eT (top gM),dA (top gM),av (top gM),Me (top gM)⟩
theorem Ei (hw:RowW.promised (OpenRow.toRowW (OpenLaw.row PySem.Challenge.rw_oddlong_k29_forms_made_and_refused)))(h:WalkO Ar Dd (XL Ar []) (InK Qx) (OpenRow.toRowW (OpenLaw.row PySem.Challenge.rw_oddlong_k29_forms_made_and_refused)) RK [] fun f vs=>PySem.call f vs):OpenLaw.Holds PySem.Challenge.rw_oddlong_k29_forms_made_and_refused:=
 holds_law Dg fun sd=>holds_open (r:=OpenLaw.row PySem.Challenge.rw_oddlong_k29_forms_made_and_refused) (d:=RK) (kwd:=[]) Ez (Hook.of Ax) (Hook.keeps Ax) (fun s e=>xl_of s (Bool.and_eq_true_iff.mp e).1) XL.keeps (by kernel_rfl) (by kernel_rfl) (by kernel_rfl) (fun s e=>recFacts_of (Bool.and_eq_true_iff.mp e).2) rfl sd (by decide +kernel) ⟨rfl,rfl,rfl,rfl,rfl,by decide +kernel⟩ hw h
theorem sizeOk {n:Nat}(h:n<=10000000):n<=sizeLine:=Jg h (by decide)
theorem rY (l:List Str)(h:decide l.Nodup=true:=by decide +kernel):l.Nodup:=of_decide_eq_true h
end Z
namespace L2
open PySem PySem.Spec PyProof.Rows
abbrev sj:Value->Shared->Prop:=fun _ _=>False
theorem fw {α:Type}{M:Model}{A:Around}{t:Sem α}{Q: α->Shared->Prop}{E:Value->Shared->Prop}{s:Shared}(h:wpAny M A t Q sj s):wpAny M A t Q E s:=
 wpAny_mono h (fun _ _ q=>q) fun _ _ z=>z.elim
theorem cu {a b:Addr}{n:Nat}(h:a<n)(h':n<=b):a≠b:=fun e=>absurd (Jn h h') (by rw[e];exact Uj _)
theorem iH {a b:Addr}{n:Nat}(h:a<n)(h':n<=b):b≠a:=fun e=>cu h h' e.symm
theorem jG (env:Env):∀(names:List (Str×NameKind)) (acc:List (Str×Addr)),
  (∀y∈names,y.2 = .free->∃c,env.cells.lookup y.1=some c)->(∀n c,acc.lookup n=some c->env.cells.lookup n=some c) ->
  ∃cl,(forIn names acc fun(x:Str×NameKind) (cs:List (Str×Addr))=>(if (x.2==NameKind.free)=true then do
    let a <-cellOf env x.1
    pure (ForInStep.yield ((x.1,a)::cs)) else pure (ForInStep.yield cs):Sem (ForInStep (List (Str×Addr)))))=pure cl /\
   (∀n c,cl.lookup n=some c->env.cells.lookup n=some c)/\(∀n c,acc.lookup n=some c->∃c',cl.lookup n=some c')/\∀y∈names,y.2 = .free->∃c,cl.lookup y.1=some c
 | [],acc,_,h2=>⟨acc,rfl,h2,fun _ c h=>⟨c,h⟩,fun _ h=>nomatch h⟩
 | (n,k)::r,acc,h1,h2=>by
  have hr:∀y∈r,y.2 = .free->∃c,env.cells.lookup y.1=some c:=fun y hy=>h1 y (Jo _ hy)
  by_cases hk:k = .free
  ·subst hk
   obtain⟨c,hc⟩:=h1 (n,.free) Js rfl
   obtain⟨cl,e,p1,p2,p3⟩:=jG env r ((n,c)::acc) hr (fun m d hm=>by
    rw[Uo] at hm
    by_cases q:m==n
    ·rw[q] at hm
     have:m=n:=by simpa using q
     subst this
     cases hm
     exact hc
    ·have q':(m==n)=false:=by simpa using q
     rw[q'] at hm
     exact h2 m d hm)
   refine⟨cl,?_,p1,fun m d hm =>?_,fun y hy hf =>?_⟩
   ·rw[Yh]
    rw[<-e]
    show(cellOf env n >>= fun a=>_) >>= _=_
    unfold cellOf
    rw[hc]
    rfl
   ·by_cases q:m=n
    ·subst q
     exact p2 m c (by rw[Uo];simp)
    ·exact p2 m d (by rw[Uo];simp -iota only [beq_eq_false_iff_ne.mpr q];exact hm)
   ·rcases Jm.mp hy with rfl|hy
    ·exact p2 n c (by rw[Uo];simp)
    ·exact p3 y hy hf
  ·refine aj.el (jG env r acc hr h2) _ ?_
   rintro cl e p1 p2 p3
   refine⟨cl,?_,p1,p2,fun y hy hf =>?_⟩
   ·rw[Yh,<-e]
    have hb:(k==NameKind.free)=false:=by simpa using hk
    simp -iota only [hb,U2,if_false]
    rfl
   ·rcases Jm.mp hy with rfl|hy
    ·exact absurd hf hk
    ·exact p3 y hy hf
theorem ow {scope:Scope}{env:Env}(h:∀y∈scope.names,y.2 = .free->∃c,env.cells.lookup y.1=some c):
  ∃cl,closureFor scope env=pure cl/\(∀n c,cl.lookup n=some c->env.cells.lookup n=some c)/\∀y∈scope.names,y.2 = .free->∃c,cl.lookup y.1=some c:=by
 obtain⟨cl,e,p1,_,p3⟩:=jG env scope.names [] h (fun n c h=>by simp at h)
 refine⟨cl,?_,p1,p3⟩
 unfold closureFor
 refine Eq.trans ?_ (congrArg (fun m=>m >>= fun(cs:List (Str×Addr))=>(pure cs:Sem _)) e)
 rfl
noncomputable def rM (ifs:List Expr)(env:Env):Sem Bool:=forIn ifs true fun c r=>if r=true then do let ok <-isTrue c env (eval c env);pure (ForInStep.yield ok) else pure (ForInStep.yield r)
section
variable {prog:Program}{w:World}{A:Around}{R:Result->Shared->Prop}{s:Shared}
theorem vT {elt target iter:Expr}{ifs:List Expr}{scope:Scope}{pos:Pos}{it acc:Value}{env:Env}(I:Nat->Shared->Prop)
  (turn:∀n s,I n s->wpAny (model prog w) A (pyNext it) (fun r s1=>match r with
   | none=>R (.ok .next) s1
   | some v=>wpAny (model prog w) A (letOwnedTupleGo target it v) (fun _ s1'=>wpAny (model prog w) A (assign target env v) (fun _ s2=>
     wpAny (model prog w) A (rM ifs env) (fun ok s3=>
      if ok=true then wpAny (model prog w) A (eval elt env) (fun x s4=>
       wpAny (model prog w) A (call (.builtin "list.append") [acc,x]) (fun _ s5=>∃m,m<n/\I m s5) sj s4) sj s3
      else ∃m,m<n/\I m s3) sj s2) sj s1') sj s1) sj s)
  (n:Nat) (h:I n s):codeAny (model prog w) A (.compLoop (.ListComp elt [⟨target,iter,ifs,0⟩] scope pos) 0 it acc env) R s:=by
 refine codeAny_loop rfl I (fun n s hI=>(show wpAny _ A (Sem.onRaise (compTurn (.ListComp elt [⟨target,iter,ifs,0⟩] scope pos) 0 it acc env) (fun x=>do noteFrame x env;theTreesLotGoes x)) _ _ s from wpAny_noted ?_)) n h
 rw[compTurn_list]
 refine wpAny_bind (wpAny_standAt (wpAny_bind (fw (bG (turn n s hI) fun r s1 h1 =>?_))))
 cases r with
 | none=>exact wpAny_pure h1
 | some v=>
  refine wpAny_bind (fw (bG h1 fun _ s1' IW =>?_))
  refine wpAny_bind (fw (bG IW fun _ s2 h2=>wpAny_bind (fw (bG h2 fun ok s3 h3 =>?_))))
  cases ok with
  | false=>exact wpAny_pure ⟨rfl,h3⟩
  | true=>exact wpAny_bind (wpAny_bind (fw (bG h3 fun x s4 h4=>wpAny_bind (fw (bG h4 fun _ s5 h5=>wpAny_pure (wpAny_pure ⟨rfl,h5⟩))))))
end
theorem hZ.adopt {P:Program}{w:World}{H:Hp}{h:Heap}{a:Addr}{o:HO}(x:hZ P w H h)(hn:H a=none)(new:bt P w (upd H a o) h a o):hZ P w (upd H a o) h:=fun b u e=>by
 by_cases hb:b=a
 ·subst hb;rw[aq] at e;cases e;exact new
 ·rw[ao hb] at e
  exact(x b u e).gc (fun c v _ q=>q) (fun c q=>by rw[ao (aF q hn)];exact q) fun c xs q=>by rw[ao (aF q hn)];exact q
structure ic (X:Cx)(scope:Scope)(Nc Fc:List Str)(js:List Nat):Prop where
 kind:scope.kind = .function
 nocell:∀y∈scope.names,y.2 ≠ .cell
 names:∀y∈scope.names,y.2 = .local->scope.names.lookup y.1=some .local
 free:∀y∈scope.names,y.2 = .free->X.env.kindOf y.1=some .cell∨X.env.kindOf y.1=some .free
 frees:∀(k:Nat) (x:Str),Fc[k]? = some x->scope.names.lookup x=some .free/\∃j,js[k]? = some j/\X.N[j]? = some x
 lens:js.length=Fc.length
noncomputable def eI (σ:St)(js:List Nat):St:=js.map fun j=>(σ[j]?).join
noncomputable def pf (X:Cx)(Nc Fc:List Str)(scope:Scope)(cl:List (Str×Addr))(C:Addr)(s:Shared)(H:Hp)(fp:List Addr):Cx:=
 { X with N:=Nc++Fc,s₀:=s,H₀:=H,env:=compEnvC scope cl C X.env,outer:=X.stack,stack:=X.stack,ex:=fp,fn:=fun _=>false,pn:=[],xe:=sj }
theorem ia {env:Env}:∀{names:List (Str×NameKind)} {x:Str} {k:NameKind},(names.map fun(n,k)=>if (k==NameKind.free&&env.scope.kind == .function&&env.kindOf n==some .cell) then (n,NameKind.cell) else (n,k)).lookup x=some k ->
  names.lookup x=some k∨(k = .cell/\names.lookup x=some .free)
 | [],_,_,h=>by simp at h
 | (n,k0)::r,x,k,h=>by
  have ih := @ia env r x k
  rw[Ub] at h
  dsimp only at h
  by_cases hx:x=n
  ·subst hx
   by_cases hc:(k0==NameKind.free&&env.scope.kind == .function&&env.kindOf x==some .cell)=true
   ·rw[if_pos hc] at h
    simp -iota only [Uo,beq_self_eq_true] at h
    have hk:k0 = .free:=by
     have:=(Jw _ _).mp ((Jw _ _).mp hc).1
     simpa using this.1
    subst hk
    cases h
    exact .inr ⟨rfl,by simp only[Uo,beq_self_eq_true]⟩
   ·rw[if_neg hc] at h
    simp -iota only [Uo,beq_self_eq_true] at h ⊢
    exact .inl h
  ·have hb:(x==n)=false:=beq_eq_false_iff_ne.mpr hx
   have e:Y8 x ((if (k0==NameKind.free&&env.scope.kind == .function&&env.kindOf n==some .cell)=true then (n,NameKind.cell) else (n,k0))::(r.map fun(n,k)=>if (k==NameKind.free&&env.scope.kind == .function&&env.kindOf n==some .cell) then (n,NameKind.cell) else (n,k)))=some k:=h
   have e2:Y8 x (r.map fun(n,k)=>if (k==NameKind.free&&env.scope.kind == .function&&env.kindOf n==some .cell) then (n,NameKind.cell) else (n,k))=some k:=by
    by_cases hc:(k0==NameKind.free&&env.scope.kind == .function&&env.kindOf n==some .cell)=true
    ·rw[if_pos hc] at e;simp -iota only [Uo,hb] at e;exact e
    ·rw[if_neg hc] at e;simp -iota only [Uo,hb] at e;exact e
   simp -iota only [Uo,hb]
   exact ih e2
theorem fA {env:Env}:∀{names:List (Str×NameKind)} {x:Str},names.lookup x=some .free ->
  (names.map fun(n,k)=>if (k==NameKind.free&&env.scope.kind == .function&&env.kindOf n==some .cell) then (n,NameKind.cell) else (n,k)).lookup x=some .cell ∨
  (names.map fun(n,k)=>if (k==NameKind.free&&env.scope.kind == .function&&env.kindOf n==some .cell) then (n,NameKind.cell) else (n,k)).lookup x=some .free
 | [],_,h=>by simp at h
 | (n,k0)::r,x,h=>by
  have ih := @fA env r x
  rw[Ub]
  dsimp only
  by_cases hx:x=n
  ·subst hx
   simp -iota only [Uo,beq_self_eq_true] at h
   cases h
   by_cases hc:(NameKind.free==NameKind.free&&env.scope.kind == .function&&env.kindOf x==some .cell)=true
   ·rw[if_pos hc];left;simp only[Uo,beq_self_eq_true]
   ·rw[if_neg hc];right;simp only[Uo,beq_self_eq_true]
  ·have hb:(x==n)=false:=beq_eq_false_iff_ne.mpr hx
   simp -iota only [Uo,hb] at h
   by_cases hc:(k0==NameKind.free&&env.scope.kind == .function&&env.kindOf n==some .cell)=true
   ·rw[if_pos hc];simp -iota only [Uo,hb];exact ih h
   ·rw[if_neg hc];simp -iota only [Uo,hb];exact ih h
theorem cC:∀{l:List (Str×NameKind)} {x:Str} {k:NameKind},l.lookup x=some k->(x,k)∈l:=fun h=>PySem.mem_of_lookup h
section
variable {X:Cx}{pins:List (Addr×Obj)}{σ:St}{H:Hp}{s:Shared}{scope:Scope}{Nc Fc:List Str}{js:List Nat}{cl:List (Str×Addr)}{C D:Addr}{fp:List Addr}
theorem oK {x:Str}:(pf X Nc Fc scope cl C s H fp).env.kindOf x=(scope.names.map fun(n,k)=>if (k==NameKind.free&&X.env.scope.kind == .function&&X.env.kindOf n==some .cell) then (n,NameKind.cell) else (n,k)).lookup x:=rfl
theorem qz (I:Inv X pins σ H s)(c:ic X scope Nc Fc js)(eE:∀n c,cl.lookup n=some c->X.env.cells.lookup n=some c)(lS:∀y∈scope.names,y.2 = .free->∃c,cl.lookup y.1=some c)
  (hC:s.heap.objs.size<=C) (hf:∀b∈fp,eu X pins H b) (ho:∀b∈fp,∃o,s.heap.get? b=some o):(pf X Nc Fc scope cl C s H fp).Ok where
 mod:=I.ok.mod
 kind:=c.kind
 glob:=I.ok.glob
 blt:=I.ok.blt
 above:=hC
 inj:=fun x y a h1 h2=>I.ok.inj x y a (eE _ _ h1) (eE _ _ h2)
 has:=fun x hx=>by
  have key:scope.names.lookup x=some .free:=by
   rw[oK] at hx
   rcases hx with h|h
   ·rcases ia h with q|⟨_,q⟩
    ·exact absurd rfl (c.nocell _ (cC q))
    ·exact q
   ·rcases ia h with q|⟨q,_⟩
    ·exact q
    ·cases q
  exact lS _ (cC key) rfl
 cab:=fun _ _ h=>nomatch h
 hd:=I.ok.hd
 frames:=I.ok.frames
 stk := .inl rfl
 exf:=fun b hb=>⟨fun z=>by
   obtain⟨o,e⟩:=ho b hb
   exact cu (Jf e) hC z,fun x a e z=>(hf b hb).2.2.2.2.1 x a (eE _ _ e) z⟩
 bs:=fun b o e=>I.bs b o e
 bsz:=Jg I.ok.bsz I.sz
 noex:=fun b o e hb=>by
  rcases(hf b hb).2.2.2.1 with z|z
  ·exact I.ok.noex b o e z
  ·exact absurd (Jn (Jf (I.ok.bs b o e).1) z) (Uj _)
 exfs:=fun b hb z=>by
  rcases Jm.mp (I.qV b z) with q|q
  ·exact(hf b hb).2.1 q
  ·exact(hf b hb).2.2.1 q
 jv:=I.stack
 frf:=I.rS
theorem EM (I:Inv X pins σ H s)(c:ic X scope Nc Fc js)(eE:∀n c,cl.lookup n=some c->X.env.cells.lookup n=some c)(lS:∀y∈scope.names,y.2 = .free->∃c,cl.lookup y.1=some c)
  (hC:s.heap.objs.size<=C) (hD:s.heap.objs.size<=D) (JI:D≠C) (hf:∀b∈fp,eu X pins H b) (ho:∀b∈fp,∃o,s.heap.get? b=some o) {h1:Heap} {t1:Nat} {m:Str->Option Value} {ob:Obj}
  (hk:∀b o,s.heap.get? b=some o->h1.get? b=some o) (hm:h1.Ns C m) (QU:h1.get? D=some ob) (TM:∀v,ob.data ≠ .cell v) :
  Inv (pf X Nc Fc scope cl C s H fp) [(D,ob)] (Jv Nc.length none++eI σ js) H { s with heap:=h1,toks:=t1 }:=by
 refine⟨qz I c eE lS hC hf ho,rfl,I.bare,Un.kept hk,⟨m,hm,fun i x v e1 e2 e3 =>?_⟩,fun x a e =>?_,I.bB.fresh hC,fun x a e=>I.freeC x a (eE x a e),fun p hp =>?_,I.bB.kept hk,?_⟩
 ·have e1:(Nc++Fc)[i]? = some x:=e1
  have e2:(Jv Nc.length none++eI σ js)[i]? = some (some v):=e2
  by_cases hi:i<Nc.length
  ·rw[Uy (by simpa using hi),Y0] at e2
   split at e2<;>cases e2
  ·rw[Ux (by omega)] at e1
   rw[Ux (by rw[U4];omega),U4] at e2
   refine aj.el (c.frees _ _ e1) _ ?_
   rintro mz j hj hN
   have hv: σ[j]? = some (some v):=by
    unfold eI at e2
    rw[Jl,hj] at e2
    have e2:some ((σ[j]?).join)=some (some v):=e2
    cases q: σ[j]? with
    | none=>rw[q] at e2;cases e2
    | some z=>rw[q] at e2;cases e2;rfl
   have kx:=c.free _ (cC mz) rfl
   refine aj.el (I.loc) _ ?_
   rintro m0 hn0 C4
   have QW:Ks X.env.scope x:=by
    rcases kx with k|k
    ·exact .inr (.inl k)
    ·exact .inr (.inr k)
   refine aj.el (C4 j x v hN hv QW) _ ?_
   rintro u ru lk
   refine⟨u,ru,.inr ⟨?_,?_⟩⟩
   ·rw[oK];exact fA mz
   ·obtain⟨a,ha⟩:=lS _ (cC mz) rfl
    refine⟨a,ha,?_⟩
    rcases lk with ⟨k,_⟩|⟨_,a',ha',hcell⟩
    ·rcases kx with q|q<;>(rw[k] at q;cases q)
    ·have e:=eE _ _ ha
     dsimp only at e
     rw[ha'] at e;cases e
     exact hcell.keeps hk
 ·obtain⟨v,z⟩:=I.cell x a (eE x a e)
  exact⟨v,z.keeps hk⟩
 ·have hp:p=(D,ob):=by
   have:p∈[(D,ob)]:=hp
   simpa using this
  subst hp
  refine⟨QU,I.bB.fresh hD,JI,fun z =>?_,TM⟩
  have z:D∈fK X.stack:=z
  rcases Jm.mp (I.qV D z) with q|q
  ·exact iH I.lt hD q
  ·exact I.K4 hD q
 ·show(Jv Nc.length none++eI σ js).length=(Nc++Fc).length
  unfold eI
  rw[Jq,Jq,U4,Je,c.lens]
end
def HX (X:Cx)(ifs:List Expr)(t:TT):Prop:=
 ∀ ⦃pins:List (Addr×Obj)⦄ (s:Shared) (σ:St) (H:Hp) (Q:Bool->Hp->Prop),Inv X pins σ H s->t σ H Q->wpAny (model X.prog X.w) X.A (rM ifs X.env) (TP X pins σ Q) X.xe s
def Mh:TT:=fun _ H Q=>Q true H
theorem di {X:Cx}:HX X [] Mh:=fun _ _ _ H _ I h=>wpAny_tests_nil ⟨H,I,h⟩
theorem Eb {X:Cx}{c:Expr}{t:TT}(h:PT X c t):HX X [c] t:=fun pins s σ H Q I hw=>wpAny_tests_one (h s σ H Q I hw)
def Ct (J:It)(n:Nat)(js:List Nat)(g:TG)(tc:TT)(te:TE)(σ:St)(H1:Hp)(fin:List V->Hp->Prop):Prop:=
 ∃W:Nat->Nat->List V->Hp->Prop,(∃m,W 0 m [] H1)/\∀i m ys H,W i m ys H ->
  (J.stop i H/\fin ys H) ∨
  (J.go i H/\ys.length<sizeLine/\∀x H',J.yld i H x H'->g x (Jv n none++eI σ js) H' fun σ2 H2=>tc σ2 H2 fun b H3=>
   if b=true then te σ2 H3 fun y H4=>∃m',m'<m/\W (i+1) m' (ys++[y]) H4 else ∃m',m'<m/\W (i+1) m' ys H3)
def Co (wi:TI)(n:Nat)(js:List Nat)(g:TG)(tc:TT)(te:TE):TE:=fun σ H Q=>wi σ H fun J H1=>
 Ct J n js g tc te σ H1 fun ys H2=>∀p,H2 p=none->Q (.ref p) (upd H2 p (.lst ys))
def Gk (n:Nat)(g:TG):Prop:=∀x σ H Q,g x σ H Q->g x σ H fun σ' H'=>Q σ' H'/\(∀j,n<=j -> σ'[j]? = σ[j]?) /\ σ'.length = σ.length
def M9 (n:Nat)(g:y8):Prop:=∀x σ H Q,g x σ H Q->g x σ H fun σ' H'=>Q σ' H'/\(∀j,n<=j -> σ'[j]? = σ[j]?) /\ σ'.length = σ.length
theorem cc {n i:Nat}(h:i<n:=by decide):Gk n (nE i):=fun x σ H Q q=>⟨q,fun j hj=>Yc (by omega),U8⟩
theorem mG {n:Nat}:M9 n IA:=fun x σ H Q q=>⟨q.1,q.2,fun _ _=>rfl,rfl⟩
theorem eW {n:Nat}{t:TG}{u:y8}(h1:Gk n t)(h2:M9 n u)(mt:∀x σ H Q Q',(∀a b,Q a b->Q' a b)->t x σ H Q->t x σ H Q')(mu:∀x σ H Q Q',(∀a b,Q a b->Q' a b)->u x σ H Q->u x σ H Q'):M9 n (Cm t u):=fun x σ H Q q=>by
 obtain⟨v,r,e,q⟩:=q
 refine⟨v,r,e,mt _ _ _ _ _ (fun σ1 H1 z =>?_) (h1 _ _ _ _ q)⟩
 refine aj.el (z) _ ?_
 rintro z k1 l1
 exact mu _ _ _ _ _ (fun σ2 H2 ⟨z2,k2,l2⟩=>⟨z2,fun j hj=>(k2 j hj).trans (k1 j hj),l2.trans l1⟩) (h2 _ _ _ _ z)
theorem ra {K:Ja}{n m:Nat}{t:y8}(h:M9 n t):Gk n (Ik K m t):=fun x σ H Q q=>by
 obtain⟨a,xs,e,h1,h2,q⟩:=q
 exact⟨a,xs,e,h1,h2,h _ _ _ _ q⟩
theorem pW {X:Cx}{elt tg iter:Expr}{ifs:List Expr}{scope:Scope}{pos:Pos}{Nc Fc:List Str}{js:List Nat}{wi:TI}{g:TG}{tc:TT}{te:TE}{use:Option (Value->Sem Unit)}{QV:Value->Shared->Prop}
  (i8:X.calm=true) (c:ic X scope Nc Fc js) (hi:PI X tg iter wi)
  (hg:∀cl C s H fp,PG (pf X Nc Fc scope cl C s H fp) tg g) (DN:∀cl C s H fp,HX (pf X Nc Fc scope cl C s H fp) ifs tc) (DD:∀cl C s H fp,PE (pf X Nc Fc scope cl C s H fp) elt te) (gk:Gk Nc.length g)
  {pins:List (Addr×Obj)} {s:Shared} {σ:St} {H:Hp} {fin:List V->Hp->Prop} (I:Inv X pins σ H s)
  (h:wi σ H fun J H1=>Ct J Nc.length js g tc te σ H1 fin)
  (behind:∀(C D:Addr) (m:Str->Option Value) (ys:List V) (H2:Hp) (s2:Shared),Inv X pins σ (upd H2 D (.lst ys)) s2->s2.heap.Ns C m->eu X pins (upd H2 D (.lst ys)) C->H2 D=none->fin ys H2->compPost (model X.prog X.w) X.A X.xe use QV (.ref D) C (.ok .next) s2)
  (hs:∀x,foldedSetIterable iter X.env x=pure x) :
  wpAny (model X.prog X.w) X.A (comprehension (.ListComp elt [⟨tg,iter,ifs,0⟩] scope pos) scope X.env (firstIterPos [⟨tg,iter,ifs,0⟩] pos) (newList []) false (eval iter X.env) use) QV X.xe s:=by
 obtain⟨cl,hclos,eE,lS⟩:=ow (scope:=scope) (env:=X.env) fun y hy hf=>I.ok.has y.1 (c.free y hy hf)
 refine wpAny_comprehension_free (use:=use) rfl hs hclos c.kind c.names ?_
 refine bG (hi s σ H _ I h) fun v s1 h1=>bG h1 fun MS s2 h2 =>?_
 obtain⟨it,fp,tn,J,H2,e,I2,T,da,f2,W,⟨m0,w0⟩,turn⟩:=h2
 subst e
 refine wpAny_newObj_type (wpAny_newFunctionEnv c.nocell (by intro y hy;simp at hy) (fun h1 hns1 hsb1 =>?_) c.kind)
 dsimp only at hns1 hsb1 ⊢
 generalize hG:s2.heap.push { cls := .type "list",dict:=none,data := .seq ([]:List Value).toArray } = G at hns1 hsb1 ⊢
 have hC:G.objs.size=s2.heap.objs.size+1:=by rw[<-hG,J2]
 have JI:s2.heap.objs.size≠G.objs.size:=by rw[hC];exact Jk (Nat.lt_succ_self _)
 have hle:s2.heap.objs.size<=G.objs.size:=by rw[hC];exact U1 _
 have old:∀b o,s2.heap.get? b=some o->h1.get? b=some o:=fun b o e=>
  hsb1.extBut b o (cu (Jf e) hle) (Jb _ (hG▸Jb _ e))
 have gD:h1.PlainList s2.heap.objs.size #[]:=⟨_,hsb1.extBut _ _ JI (Jb _ (hG▸Ji _ rfl))⟩
 obtain⟨n0,gD⟩:=gD
 have fo:∀b∈fp,∃o,s2.heap.get? b=some o:=fun b hb=>let ⟨o,e,_⟩:=T.obj 0 _ da b hb; ⟨o,e⟩
 have u6:∀b∈fp,b<s2.heap.objs.size:=fun b hb=>let ⟨o,e⟩:=fo b hb;Jf e
 let Xc:Cx:=pf X Nc Fc scope cl G.objs.size s2 H2 fp
 let D:Addr:=s2.heap.objs.size
 have nu:∀{pl:List (Addr×Obj)} {H':Hp},(∀p∈pl,p.1=D)->(∀b∈fp,H' b=none)->∀b∈fp,eu Xc pl H' b:=fun{pl H'} hp hn b hb=>by
  refine⟨hn b hb,?_,?_,.inl hb,fun x a e =>?_,fun p hq =>?_⟩
  ·exact cu (u6 b hb) hle
  ·exact(qz I2 c eE lS hle f2 fo).exfs b hb
  ·exact(f2 b hb).2.2.2.2.1 x a (eE _ _ e)
  ·have q:p∈([]:List (Addr×Obj))++pl:=hq
   rw[hp p (by simpa using q)]
   exact iH (u6 b hb) (Jd _)
 have loop:∀t1,codeAny (model X.prog X.w) X.A (.compLoop (.ListComp elt [⟨tg,iter,ifs,0⟩] scope pos) 0 (.ref it) (.ref s2.heap.objs.size) (compEnvC scope cl G.objs.size X.env))
   (compPost (model X.prog X.w) X.A X.xe use QV (.ref s2.heap.objs.size) G.objs.size) { s2 with heap:=h1,toks:=t1 }:=by
  intro t1
  refine vT (fun n s'=>∃i ys H' aA k,Inv Xc [(D,{ cls := .type "list",data := .seq aA k })] (Jv Nc.length none++eI σ js) H' s'/\Vals ys aA.toList/\ys.length<=sizeLine/\tn i s'.heap/\(∀b∈fp,H' b=none)/\W i n ys H') ?_ m0
   ⟨0,[],H2,#[],n0,EM I2 c eE lS hle (Jd _) JI f2 fo old hns1 gD (fun _ z=>nomatch z),.nil,Uw _,T.keep _ _ _ da (fun b hb o e=>old b o e),fun b hb=>(f2 b hb).1,w0⟩
  intro n s3
  refine aj.go ?_
  rintro i ys H3 aA k I3 rv hz bJ pC w3
  have Bg:∀p∈[(D,({ cls := .type "list",data := .seq aA k }:Obj))],p.1=D:=fun p hp=>congrArg Prod.fst (Uc.mp hp)
  rcases turn i n ys H3 w3 with ⟨stop,qn⟩|⟨go,ji,step⟩
  ·refine bG (T.done Xc rfl rfl rfl i8 i _ s3 _ H3 sj I3 (nu Bg pC) bJ stop) fun r s4 hz_ =>?_
   refine aj.el hz_ _ ?_
   clear hz_
   rintro hr I4
   subst hr
   show compPost _ _ _ _ _ _ _ _ _
   obtain⟨hDo,HB,hDne,hDfs,_⟩:=I4.pin (D,_) (Jy _ Js)
   have Qs:D≠G.objs.size:=JI
   refine aj.el (I4.loc) _ ?_
   rintro mC hmC _
   have OM:H3 G.objs.size=none:=I4.free
   have Ve:∀b o,s2.heap.get? b=some o->b≠D:=fun b o e=>Jk (Jf e)
   have u:Un (fK X.stack) fp H2 H3 s2.heap s4.heap:=I4.base
   have HC:H2 D=none:=I2.bB.fresh (Jd _)
   have u':Un (fK X.stack) fp H2 (upd H3 D (.lst ys)) s2.heap s4.heap:=
    ⟨u.keep,u.slot,fun b o e n hx=>by rw[ao (Ve b o e)];exact u.free b o e n hx,u.there,
      fun b xs e=>by rw[ao (aF e HC)];exact u.iV b xs e,fun b o xs e=>by rw[ao (aF e HC)];exact u.iu b o xs e,
      fun b ps e=>by rw[ao (aF e HC)];exact u.jz b ps e⟩
   have vN:hZ X.prog X.w (upd H3 D (.lst ys)) s4.heap:=I4.bB.adopt HB ⟨hz,aA.toList,k,rv,by simpa using hDo⟩
   have xX:∀b∈fp,(b∈X.ex∨X.s₀.heap.objs.size<=b)/\b≠X.env.locals/\(∀x c,X.env.cells.lookup x=some c->c≠b)/\∀p∈X.pn++pins,p.1≠b:=fun b hb=>
    ⟨(f2 b hb).2.2.2.1,(f2 b hb).2.1,(f2 b hb).2.2.2.2.1,(f2 b hb).2.2.2.2.2⟩
   have NO:s4.os=s2.os:=I4.os
   have J4:Inv X pins σ (upd H3 D (.lst ys)) s4:=I2.CY (H':=upd H3 D (.lst ys)) NO u' vN I4.bare xX
   refine behind G.objs.size D mC ys H3 s4 J4 hmC (I2.eC hle ?_) HB qn
   rw[ao (Ne.symm Qs)]
   exact OM
  ·refine bG (T.item Xc rfl rfl rfl i8 i _ s3 _ H3 sj I3 (nu Bg pC) bJ go) fun r s4 hz_ =>?_
   refine aj.el hz_ _ ?_
   clear hz_
   rintro u hr h4
   subst hr
   show wpAny _ _ (letOwnedTupleGo tg (.ref it) u) _ _ _
   refine bG h4 fun _ s5 hz_ =>?_
   refine aj.el hz_ _ ?_
   clear hz_
   rintro x H5 I5 r5 y5 bX GB
   have Ln:=I5.pinned (nu Bg GB) (T.obj _ _ bX)
   refine bG (hg cl G.objs.size s2 H2 fp s5 _ H5 x u _ Ln r5 (gk _ _ _ _ (step x H5 y5))) fun _ s6 hz_ =>?_
   refine aj.el hz_ _ ?_
   clear hz_
   rintro σ6 H6 I6 q6 kσ kl
   refine bG (DN cl G.objs.size s2 H2 fp s6 σ6 H6 _ I6 q6) fun b s7 hz_ =>?_
   refine aj.el hz_ _ ?_
   clear hz_
   rintro H7 I7 q7
   have later:∀{σ':St} {H':Hp} {s':Shared},Inv Xc ([(D,({ cls := .type "list",data := .seq aA k }:Obj))]++gF fp s5.heap) σ' H' s'->tn (i+1) s'.heap/\∀b∈fp,H' b=none:=fun{σ' H' s'} Iz=>by
    refine⟨T.keep _ _ _ bX fun b hb o e=>(Iz.pin (b,o) (Jy _ (Jy _ (eQ hb e)))).1,fun b hb =>?_⟩
    refine aj.el (T.obj _ _ bX b hb) _ ?_
    rintro o e d
    exact(Iz.pin (b,o) (Jy _ (Jy _ (eQ hb e)))).2.1
   have back:∀{pl:List (Addr×Obj)} {H':Hp} {s':Shared},Inv Xc pl σ6 H' s'->Inv Xc pl (Jv Nc.length none++eI σ js) H' s':=fun{pl H' s'} Iz=>by
    refine Iz.weak (by rw[<-kl]) fun j v hj =>?_
    by_cases hn:j<Nc.length
    ·rw[Uy (by simpa using hn),Y0] at hj
     split at hj<;>cases hj
    ·rw[kσ j (by omega)];exact hj
   cases b with
   | false=>
    rw[if_neg Jt] at q7 ⊢
    refine aj.el (q7) _ ?_
    rintro m' Dm w7
    obtain⟨l1,l2⟩:=later I7
    exact⟨m',Dm,i+1,ys,H7,aA,k,back I7.fX,rv,hz,l1,l2,w7⟩
   | true=>
    rw[if_pos rfl] at q7 ⊢
    refine bG (DD cl G.objs.size s2 H2 fp s7 σ6 H7 _ I7 q7) fun yv s8 hz_ =>?_
    refine aj.el hz_ _ ?_
    clear hz_
    rintro y H8 I8 r8 q8
    refine aj.el (q8) _ ?_
    rintro m' Dm w8
    obtain⟨hDo,HB,hDne,hDfs,_⟩:=I8.pin (D,_) (Jy _ (Yv _ Js))
    obtain⟨l1,l2⟩:=later I8
    have hits:aA.size=ys.length:=by
     have e1:=rv.length
     simp -iota only [U6] at e1
     omega
    refine wpAny_list_append_plain (hsz:=by omega) ⟨k,hDo⟩ fun h9 hl9 hs9 =>?_
    obtain⟨k9,hD9⟩:=hl9
    have Ol:∀p∈gF fp s5.heap,p.1≠D:=fun p hp=>by
     obtain⟨hb,_⟩:=qg hp
     exact cu (u6 _ hb) (Jd _)
    have VN:Inv Xc (gF fp s5.heap) σ6 H8 s8:=I8.mH fun p hp=>I8.pin p (Jy _ (Jy _ hp))
    have I9:Inv Xc (gF fp s5.heap) σ6 H8 { s8 with heap:=h9,toks:=s8.toks }:=VN.turned (it:=D) (fun b o hb e=>hs9.extBut b o hb e) HB JI (.inr (Jd _))
     (fun x a e z=>by
      obtain⟨v,q⟩:=I2.cell x a (eE _ _ e)
      exact cu q.lt (Jd _) z) (fun p hp=>Ol p (by
       have hp:p∈([]:List (Addr×Obj))++gF fp s5.heap:=hp
       simpa using hp))
    obtain⟨nR,fr9⟩:tn (i+1) h9/\∀b∈fp,H8 b=none:=by
     refine⟨T.keep _ _ _ l1 fun b hb o e=>hs9.extBut b o ?_ e,l2⟩
     exact cu (u6 _ hb) (Jd _)
    refine⟨m',Dm,i+1,ys++[y],H8,aA.push yv,k9,back (I9.mH fun p hp =>?_),?_,?_,nR,fr9,w8⟩
    ·cases Uc.mp hp
     exact⟨hD9,HB,hDne,hDfs,fun _ z=>nomatch z⟩
    ·rw[Array.toList_push]
     exact rv.append (.cons r8 .nil)
    ·rw[Jq,List.length_singleton];omega
 exact codeAny_compStart_list (loop _) (T.self _ 0 _ _ _ (T.keep _ _ _ da fun b hb o e=>old b o e) (loop _))
theorem cW {X:Cx}{elt tg iter:Expr}{ifs:List Expr}{scope:Scope}{pos:Pos}{Nc Fc:List Str}{js:List Nat}{wi:TI}{g:TG}{tc:TT}{te:TE}
  (i8:X.calm=true) (c:ic X scope Nc Fc js) (hi:PI X tg iter wi) (gk:Gk Nc.length g)
  (hg:∀cl C s H fp,PG (pf X Nc Fc scope cl C s H fp) tg g) (DN:∀cl C s H fp,HX (pf X Nc Fc scope cl C s H fp) ifs tc) (DD:∀cl C s H fp,PE (pf X Nc Fc scope cl C s H fp) elt te)
  (hs:∀x,foldedSetIterable iter X.env x=pure x:=by intro _;rfl) :
  PE X (.ListComp elt [⟨tg,iter,ifs,0⟩] scope pos) (Co wi Nc.length js g tc te):=by
 intro pins s σ H Q I h
 rw[eval_ListComp]
 refine pW (use:=none) i8 c hi hg DN DD gk I h (fun C D m ys H2 s2 I2 hm hC hD q =>?_) hs
 refine⟨m,hm,fun h' hs' =>?_⟩
 refine⟨.ref D,_,I2.turned (it:=C) (t':=s2.toks) (fun b o hb e=>hs'.extBut b o hb e) hC.1 (hC.2.1) hC.2.2.2.1 hC.2.2.2.2.1 hC.2.2.2.2.2,rfl,q D hD⟩
theorem nz {X:Cx}{i:Nat}{y:Str}{elt tg iter:Expr}{ifs:List Expr}{scope:Scope}{pos pos' py:Pos}{Nc Fc:List Str}{js:List Nat}{wi:TI}{g:TG}{tc:TT}{te:TE}(hN:X.N.Nodup)(hy:X.N[i]? = some y)(hl:Loc X.env.scope y)
  (i8:X.calm=true) (c:ic X scope Nc Fc js) (hi:PI X tg iter wi) (gk:Gk Nc.length g)
  (hg:∀cl C s H fp,PG (pf X Nc Fc scope cl C s H fp) tg g) (DN:∀cl C s H fp,HX (pf X Nc Fc scope cl C s H fp) ifs tc) (DD:∀cl C s H fp,PE (pf X Nc Fc scope cl C s H fp) elt te)
  (Vv:swapsWith (.ListComp elt [⟨tg,iter,ifs,0⟩] scope pos) (some (.Name y py)) pos'.line X.env=pure true:=by rfl)
  (hs:∀x,foldedSetIterable iter X.env x=pure x:=by intro _;rfl)
  (hf:X.fn y=true∨X.env.scope.names.lookup y=some .local:=by first|exact .inl rfl|exact .inr rfl|assumption) :
  PS X (.Assign [.Name y py] (.ListComp elt [⟨tg,iter,ifs,0⟩] scope pos) pos') (Fh (Co wi Nc.length js g tc te) (nE i)):=by
 intro pins s σ H E I h
 rw[exec_Assign_Name_used _ _ _ _ Vv]
 refine wpAny_bind (wpAny_standAt (wpAny_bind ?_))
 show wpAny _ X.A (do let _ <-comprehension (.ListComp elt [⟨tg,iter,ifs,0⟩] scope pos) scope X.env _ (newList []) false (eval iter X.env) (some (assign (.Name y py) X.env))) _ _ s
 refine wpAny_bind (bG (pW (use:=some (assign (.Name y py) X.env)) (QV:=fun _ s'=>SP X pins E .next s') i8 c hi hg DN DD gk I h (fun C D m ys H2 s2 I2 hm hC hD q =>?_) hs) fun _ s' hq=>wpAny_pure (wpAny_pure hq))
 show wpAny _ _ (assign (.Name y py) X.env (.ref D)) _ _ s2
 refine wpAny_assign_Name (pG I2 hN hy hl (v := .ref D) rfl (fun s3 I3 ⟨a,hsa,ha⟩=>?_) hf)
 have C5:C≠a:=by
  rcases ha with e|e
  ·rw[e];exact hC.2.1
  ·exact fun z=>hC.2.2.2.2.1 _ _ e z.symm
 refine⟨m,hm.at' fun o e=>hsa.extBut _ o C5 e,fun h' hs' =>?_⟩
 exact⟨_,_,I3.turned (it:=C) (t':=s3.toks) (fun b o hb e=>hs'.extBut b o hb e) hC.1 hC.2.1 hC.2.2.2.1 hC.2.2.2.2.1 hC.2.2.2.2.2,q D hD⟩
section
variable {X:Cx}{pins:List (Addr×Obj)}{σ:St}{H:Hp}{s:Shared}{p:Addr}{ys:List V}
theorem pK {A:Around}(hh:A.handled=none)(I:Inv X pins σ H s)(hq:aM X.K H p ys){R:Value->Shared->Prop}{E:Value->Shared->Prop}
  (h:∀(aA:List Value) (it:Addr) (s2:Shared),Vals ys aA->aA.length<=sizeLine ->
   Walks X.prog X.w A it [it,p] [it] aA.toArray.size (fun i v=>aA.toArray[i]? = some v) (fun i h=>h.IsListIter it p i/\h.IsList p aA.toArray)->(s2.heap.IsListIter it p 0/\s2.heap.IsList p aA.toArray)->(∀b∈[it,p],b<s2.heap.objs.size) ->
   (∀h' tk,(∀b o,b∉[it]->s2.heap.get? b=some o->h'.get? b=some o)->Inv X pins σ H { s2 with heap:=h',toks:=tk })->R (.ref it) s2) :
  wpAny (model X.prog X.w) A (pyIter (.ref p)) R E s:=by
 obtain⟨aA,rv,pl,hz⟩:=I.list hq
 have hl:=pl.isList
 have hp:p<s.heap.objs.size:=by obtain⟨o,e,_⟩:=hl;exact Jf e
 refine wpAny_pyIter_list hl ?_
 refine h aA s.heap.objs.size _ rv (by have:=rv.length;omega) (Walks.list hh _ p (Jk hp) aA.toArray) ⟨⟨_,Ji _ rfl,rfl,rfl⟩,hl.push _⟩ (fun b hb =>?_) fun h' tk hk =>?_
 ·show b<(s.heap.push _).objs.size
  rw[J2]
  rcases Jm.mp hb with rfl|hb
  ·exact Nat.lt_succ_self _
  ·rw[Uc.mp hb];exact Nat.lt_succ_of_lt hp
 ·exact I.kept (t':=tk) fun b o e=>hk b o (fun z=>cu (Jf e) (Jd _) (Uc.mp z)) (Jb _ e)
theorem kR {ys:List V}{aA:List Value}(r:Vals ys aA){i:Nat}{v:Value}(e:aA.toArray[i]? = some v):∃y,ys[i]? = some y/\RelV y v:=by
 have e':aA[i]? = some v:=by simpa using e
 have hi:i<aA.length:=(Jp.mp e').1
 have hl:=r.length
 obtain⟨u,h1,h2⟩:=r.get (i:=i) (x:=ys[i]'(by omega)) (by simp)
 rw[e'] at h1;cases h1
 exact⟨_,by simp,h2⟩
theorem range_all (bs:List Bool):(Wb bs.length).all (fun i=>bs.getD i false)=bs.all id:=by
 induction bs with
 | nil=>rfl
 | cons b r ih=>
  rw[J0,List.range_succ_eq_map,List.all_cons,List.all_map,List.all_cons,<-ih]
  rfl
theorem range_any (bs:List Bool):(Wb bs.length).any (fun i=>bs.getD i false)=bs.any id:=by
 induction bs with
 | nil=>rfl
 | cons b r ih=>
  rw[J0,List.range_succ_eq_map,Wc,List.any_map,Wc,<-ih]
  rfl
theorem ug {A:Around}{bs:List Bool}{aA:List Value}(r:Vals (bs.map V.bl) aA):TruthOf X.prog X.w A (fun i v=>aA.toArray[i]? = some v) (fun i=>bs.getD i false):=by
 intro i v s Q E e hQ
 obtain⟨y,h1,h2⟩:=kR r e
 rw[Jl] at h1
 cases q:bs[i]? with
 | none=>rw[q] at h1;cases h1
 | some b=>
  rw[q] at h1;cases h1
  cases h2
  have:bs.getD i false=b:=by simp[List.getD,q]
  have hQ:Q (bs.getD i false) s:=hQ
  rw[this] at hQ
  exact wpAny_pure hQ
theorem sR (hc:X.calm=true):bN X (.builtin "all") (fun xs H Q=>∃(p:Addr) (bs:List Bool),xs=[.ref p]/\aM X.K H p (bs.map V.bl)/\Q (.bl (bs.all id)) H):=by
 intro pins s σ H xs us Q I r h
 obtain⟨p,bs,rfl,hq,q⟩:=h
 obtain⟨u,rfl,ru⟩:=vals1 r
 cases ru
 refine call_all_walk (pK (A:=X.A.in1) (I.ok.hd hc) I hq fun aA it s2 rv hz W st ji hI =>?_)
 refine⟨it,_,_,_,_,_,fun i=>bs.getD i false,rfl,W,st,ug rv,fun h' tk hk =>?_⟩
 have hl:aA.toArray.size=bs.length:=by have:=rv.length;simp at this ⊢;omega
 rw[hl,range_all]
 exact⟨.bl _,H,hI h' tk hk,rfl,q⟩
theorem sI (hc:X.calm=true):bN X (.builtin "any") (fun xs H Q=>∃(p:Addr) (bs:List Bool),xs=[.ref p]/\aM X.K H p (bs.map V.bl)/\Q (.bl (bs.any id)) H):=by
 intro pins s σ H xs us Q I r h
 obtain⟨p,bs,rfl,hq,q⟩:=h
 obtain⟨u,rfl,ru⟩:=vals1 r
 cases ru
 refine call_any_walk (pK (A:=X.A.in1) (I.ok.hd hc) I hq fun aA it s2 rv hz W st ji hI =>?_)
 refine⟨it,_,_,_,_,_,fun i=>bs.getD i false,rfl,W,st,ug rv,fun h' tk hk =>?_⟩
 have hl:aA.toArray.size=bs.length:=by have:=rv.length;simp at this ⊢;omega
 rw[hl,range_any]
 exact⟨.bl _,H,hI h' tk hk,rfl,q⟩
theorem DE (K:Ja)(hc:X.calm=true)(hK:X.K=K:=by rfl):bN X (.builtin "all") (fun xs H Q=>∃(p:Addr) (bs:List Bool),xs=[.ref p]/\aM K H p (bs.map V.bl)/\Q (.bl (bs.all id)) H):=by subst hK;exact sR hc
theorem OZ (K:Ja)(hc:X.calm=true)(hK:X.K=K:=by rfl):bN X (.builtin "any") (fun xs H Q=>∃(p:Addr) (bs:List Bool),xs=[.ref p]/\aM K H p (bs.map V.bl)/\Q (.bl (bs.any id)) H):=by subst hK;exact sI hc
theorem jD:FJ X "str.startswith" (fun x vs H Q=>∃a b,x = .str a/\vs=[.str b]/\Q (.bl (Txt.startswith a b)) H):=by
 intro pins s σ H x vs v us Q I rx rv h
 obtain⟨a,b,rfl,rfl,q⟩:=h
 obtain⟨t,rfl⟩:=rx
 obtain⟨u,rfl,t',rfl⟩:=rv.one
 exact SC.startswith ⟨.bl _,H,I,rfl,q⟩
theorem yE:FJ X "str.strip" (fun x vs H Q=>∃a b,x = .str a/\vs=[.str b]/\a.length<=sizeLine/\Q (.str (Txt.stripChars a b)) H):=by
 intro pins s σ H x vs v us Q I rx rv h
 obtain⟨a,b,rfl,rfl,hz,q⟩:=h
 obtain⟨t,rfl⟩:=rx
 obtain⟨u,rfl,t',rfl⟩:=rv.one
 exact SC.stripChars (fun t' k=>⟨.str _,H,I.tok _,⟨_,rfl⟩,q⟩) hz
end
mutual
def Den (K:Ja)(H:Hp):PyData->V->Prop
 | .none,v=>v = .non
 | .bool b,v=>v = .bl b
 | .int i,v=>v = .int i
 | .str x,v=>v = .str x
 | .list ds,v=>fE fun a vs=>v = .ref a/\aM K H a vs/\au K H ds vs
 | .tuple ds,v=>fE fun a vs=>v = .ref a/\cE K H a vs/\au K H ds vs
 | .dict _,_=>False
def au (K:Ja)(H:Hp):List PyData->List V->Prop
 | [],vs=>vs=[]
 | d::ds,vs=>fE fun v r=>vs=v::r/\Den K H d v/\au K H ds r
end
theorem ak.fM {K:Ja}{H H':Hp}{a:Addr}{xs:List V}(e:ak H H')(h:cE K H a xs):cE K H' a xs:=by
 rcases h with (h|⟨o,h⟩)|h
 ·exact .inl (.inl (e _ _ h))
 ·exact .inl (.inr ⟨o,e _ _ h⟩)
 ·exact .inr h
mutual
theorem Den.same {K:Ja}{H H':Hp}(e:ak H H'):∀{d:PyData} {v:V},Den K H d v->Den K H' d v
 | .none,_,h=>by unfold Den at h ⊢;exact h
 | .bool _,_,h=>by unfold Den at h ⊢;exact h
 | .int _,_,h=>by unfold Den at h ⊢;exact h
 | .str _,_,h=>by unfold Den at h ⊢;exact h
 | .list ds,_,h=>by
  unfold Den at h ⊢
  obtain⟨a,vs,h1,h2,h3⟩:=h
  exact⟨a,vs,h1,e.seq h2,au.same e h3⟩
 | .tuple ds,_,h=>by
  unfold Den at h ⊢
  obtain⟨a,vs,h1,h2,h3⟩:=h
  exact⟨a,vs,h1,e.fM h2,au.same e h3⟩
 | .dict _,_,h=>by unfold Den at h;exact h.elim
theorem au.same {K:Ja}{H H':Hp}(e:ak H H'):∀{ds:List PyData} {vs:List V},au K H ds vs->au K H' ds vs
 | [],_,h=>by unfold au at h ⊢;exact h
 | d::ds,_,h=>by
  unfold au at h ⊢
  obtain⟨v,r,h1,h2,h3⟩:=h
  exact⟨v,r,h1,Den.same e h2,au.same e h3⟩
end
mutual
theorem Den.reads {X:Cx}{pins:List (Addr×Obj)}{σ:St}{H:Hp}{s:Shared}(I:Inv X pins σ H s):∀{d:PyData} {v:V} {u:Value},Den X.K H d v->RelV v u->∃as,Reads s.heap u d as
 | .none,_,_,h,r=>by unfold Den at h;subst h;cases r;exact⟨_,.none⟩
 | .bool _,_,_,h,r=>by unfold Den at h;subst h;cases r;exact⟨_,.bool _⟩
 | .int _,_,_,h,r=>by unfold Den at h;subst h;obtain⟨t,rfl⟩:=r;exact⟨_,.int _ _⟩
 | .str _,_,_,h,r=>by unfold Den at h;subst h;obtain⟨t,rfl⟩:=r;exact⟨_,.str _ _⟩
 | .list ds,_,_,h,r=>by
  unfold Den at h
  obtain⟨a,vs,rfl,h2,h3⟩:=h
  cases r
  obtain⟨aA,rv,⟨o,n,e1,e2,_,e4⟩,_⟩:=I.list h2
  obtain⟨as,q⟩:=au.reads I h3 rv
  exact⟨_,.list e1 e2 e4 (by simpa using q)⟩
 | .tuple ds,_,_,h,r=>by
  unfold Den at h
  obtain⟨a,vs,rfl,h2,h3⟩:=h
  cases r
  obtain⟨aA,rv,⟨o,e1,e2,n,e4⟩,_⟩:=I.tuple h2
  obtain⟨as,q⟩:=au.reads I h3 rv
  exact⟨_,.tuple e1 e2 e4 (by simpa using q)⟩
 | .dict _,_,_,h,_=>by unfold Den at h;exact h.elim
theorem au.reads {X:Cx}{pins:List (Addr×Obj)}{σ:St}{H:Hp}{s:Shared}(I:Inv X pins σ H s):∀{ds:List PyData} {vs:List V} {us:List Value},au X.K H ds vs->Vals vs us->∃as,ReadsAll s.heap us ds as
 | [],_,_,h,r=>by unfold au at h;subst h;cases r;exact⟨_,.nil⟩
 | d::ds,_,_,h,r=>by
  unfold au at h
  obtain⟨v,q,rfl,h2,h3⟩:=h
  cases r with
  | cons r1 r2=>
   obtain⟨as,q1⟩:=Den.reads I h2 r1
   obtain⟨bs,q2⟩:=au.reads I h3 r2
   exact⟨_,.cons q1 q2⟩
end
section
variable {X:Cx}
open PySem.SeqAt in
theorem GR (hu:X.A.units+64<cLine):fL X (compareOp .Eq) (fun x y H Q=>∃d e,Den X.K H d x/\Den X.K H e y/\shaped d=true/\shaped e=true/\Q (.bl (PyData.eqv d e)) H):=by
 intro pins s σ H x y v u Q I rx ry h
 obtain⟨d,e,hd,he,sd,se,q⟩:=h
 obtain⟨as,r1⟩:=hd.reads I rx
 obtain⟨bs,r2⟩:=he.reads I ry
 exact eq_dataH r1 r2 sd se hu ⟨.bl _,H,I,rfl,q⟩
open PySem.SeqAt in
theorem Hv (hu:X.A.units+64<cLine):fL X (compareOp .NotEq) (fun x y H Q=>∃d e,Den X.K H d x/\Den X.K H e y/\shaped d=true/\shaped e=true/\Q (.bl (!PyData.eqv d e)) H):=by
 intro pins s σ H x y v u Q I rx ry h
 obtain⟨d,e,hd,he,sd,se,q⟩:=h
 obtain⟨as,r1⟩:=hd.reads I rx
 obtain⟨bs,r2⟩:=he.reads I ry
 exact ne_dataH r1 r2 sd se hu ⟨.bl _,H,I,rfl,q⟩
theorem GW:fL X (compareOp .Is) (fun x y H Q=>∃a b,x = .bl a/\y = .bl b/\Q (.bl (decide (a=b))) H):=by
 intro pins s σ H x y v u Q I rx ry h
 obtain⟨a,b,rfl,rfl,q⟩:=h
 cases rx;cases ry
 refine wpAny_is_plain rfl (bq I q ?_)
 cases a<;>cases b<;>rfl
theorem An:fL X (compareOp .IsNot) (fun x y H Q=>∃a b,x = .bl a/\y = .bl b/\Q (.bl (!decide (a=b))) H):=by
 intro pins s σ H x y v u Q I rx ry h
 obtain⟨a,b,rfl,rfl,q⟩:=h
 cases rx;cases ry
 refine wpAny_isNot_plain rfl (bq I q ?_)
 cases a<;>cases b<;>rfl
theorem BV:bN X (.builtin "isinstance") (fun xs H Q=>∃x T t b,xs=[x,.ty T]/\kH X.K H x t/\Uh X.K t (.type T)=some b/\Q (.bl b) H):=by
 intro pins s σ H xs us Q I r h
 obtain⟨x,T,t,b,rfl,ty,e,q⟩:=h
 obtain⟨u,w',rfl,r1,r2⟩:=vals2 r
 cases r2
 exact zG I r1 ty e fun tk=>⟨.bl b,H,I.tok _,rfl,q⟩
theorem Iy:C6 X (fun x lo hi H Q=>∃z,x = .str z/\z.length<=sizeLine/\Q (.str (Txt.slice z lo hi)) H):=by
 intro pins s σ H x v vl vu lo hi sl Q I rx hs pl pu q
 obtain⟨z,rfl,hz,q⟩:=q
 obtain⟨t,rfl⟩:=rx
 refine⟨"str",_,F.slot_str_getitem.lookup,typeIs_str _ _ _,?_⟩
 have fin:∀t' k,EP X pins σ Q (.str (Txt.slice z lo hi) t') { s with toks:=k }:=fun t' k=>⟨.str _,H,I.tok _,⟨_,rfl⟩,q⟩
 cases pl with
 | none=>
  cases pu with
  | none=>exact wpAny_getItem_str_slice (l:=none) (u:=none) (st:=none) hs rfl (post_val_or_str ⟨Jg (Txt.slice_le z _ _) hz,fin⟩)
  | int j uj=>exact wpAny_getItem_str_slice (l:=none) (u:=some (j,uj)) (st:=none) hs rfl (post_val_or_str ⟨Jg (Txt.slice_le z _ _) hz,fin⟩)
 | int i ui=>
  cases pu with
  | none=>exact wpAny_getItem_str_slice (l:=some (i,ui)) (u:=none) (st:=none) hs rfl (post_val_or_str ⟨Jg (Txt.slice_le z _ _) hz,fin⟩)
  | int j uj=>exact wpAny_getItem_str_slice (l:=some (i,ui)) (u:=some (j,uj)) (st:=none) hs rfl (post_val_or_str ⟨Jg (Txt.slice_le z _ _) hz,fin⟩)
end
section
variable {X:Cx}{pins:List (Addr×Obj)}{σ:St}{H:Hp}{s:Shared}{h':Heap}
theorem Inv.iter {t':Nat}{ch:List Addr}(I:Inv X pins σ H s)(hf:∀b∈ch,eu X pins H b)(keep:∀b o,b∉ch->s.heap.get? b=some o->h'.get? b=some o):Inv X pins σ H { s with heap:=h',toks:=t' }:=by
 have Ft:∀b u,H b=some u->b∉ch:=fun b u e z=>by rw[(hf b z).1] at e;cases e
 refine I.step (g':=s.gens) (d':=s.drawn) (ch:=ch) (fun b hb=>⟨(hf b hb).2.2.2.1,(hf b hb).2.1,(hf b hb).2.2.2.2.1,(hf b hb).2.2.2.2.2⟩) (fun b o _ _ hc e _=>keep b o hc e) (fun b o _ _ hc e _=>⟨o.slots,keep b o hc e⟩)
  (fun _ _ _ _ n=>n) (fun b o hc e=>⟨o,keep b o hc e⟩) (fun _ _ e=>e) (fun _ _ _ e=>e) (fun b ps e=>⟨#[],by rw[e];simp⟩) (fun m hm=>hm.at' fun o e=>keep _ o (fun z=>(hf _ z).2.1 rfl) e) (fun b u e =>?_) I.bare
 refine(I.bB b u e).gc (fun c v hc q=>keep c v ?_ q) (fun _ q=>q) fun _ _ q=>q
 rcases hc with z|z
 ·rw[z];exact Ft b u e
 ·exact Ft c _ z
theorem Inv.adopt {T:Addr}{o:HO}(I:Inv X pins σ H s)(hT:eu X pins H T)(hex:X.s₀.heap.objs.size<=T)(new:bt X.prog X.w (upd H T o) s.heap T o):Inv X pins σ (upd H T o) s:=
 ⟨I.ok,I.os,I.bare,⟨I.base.keep,I.base.slot,fun b ob e n hx=>by rw[ao (cu (Jf e) hex)];exact I.base.free b ob e n hx,I.base.there,
   fun b xs e=>by rw[ao (aF (I.base.iV b xs e) hT.1)];exact I.base.iV b xs e,fun b ob xs e=>by rw[ao (aF (I.base.iu b ob xs e) hT.1)];exact I.base.iu b ob xs e,
   fun b ps e=>by
    obtain⟨m,q⟩:=I.base.jz b ps e
    exact⟨m,by rw[ao (aF q hT.1)];exact q⟩⟩,
  I.loc,I.cell,by rw[ao (Ne.symm hT.2.1)];exact I.free,fun x c e=>by rw[ao (hT.2.2.2.2.1 x c e)];exact I.freeC x c e,
  fun p hp=>by
   refine aj.el (I.pin p hp) _ ?_
   rintro a b c d f
   exact⟨a,by rw[ao (hT.2.2.2.2.2 p hp)];exact b,c,d,f⟩,I.bB.adopt hT.1 new,I.len⟩
end
theorem gV {xs:List V}{aA:List Value}{i:Nat}{x:V}(r:Vals xs aA)(e:xs[i]? = some x):∃u,aA.toArray[i]? = some u/\RelV x u:=by
 refine aj.el (r.get e) _ ?_
 rintro u h1 h2
 exact⟨u,by simpa using h1,h2⟩
noncomputable def R0 (K:Ja)(a:Addr):It:=
 ⟨fun i H=>fE fun xs x=>aM K H a xs/\xs[i]? = some x,
   fun i H v H'=>∃T,v = .ref T/\H T=none/\∀xs x,aM K H a xs->xs[i]? = some x->H'=upd H T (.tup [.int i,x]),
   fun i H=>∃xs,aM K H a xs/\xs.length<=i⟩
theorem zY {P:Program}{w:World}{K:Ja}{elts:List Expr}{k:Nat}{tp:Pos}(e it l:Addr)(RA:e≠it)(hle:l≠e)(V2:l≠it):
  Turn P w K (.Tuple elts k tp) (R0 K l) [e,it] e (fun i h=>(∃old,IsEnum h e it i old)/\h.IsListIter it l i) where
 mem:=by simp
 obj:=fun i h st b hb=>by
  obtain⟨⟨_,h1⟩,⟨o4,h4,_,d4⟩⟩:=st
  simp at hb
  rcases hb with rfl|rfl
  ·exact⟨_,h1,fun _ z=>nomatch z⟩
  ·exact⟨_,h4,fun v q=>by rw[d4] at q;cases q⟩
 keep:=fun i h h' st hk=>by
  obtain⟨⟨a,h1⟩,h4⟩:=st
  exact⟨⟨a,hk e (by simp) _ h1⟩,h4.at fun o e=>hk it (by simp) o e⟩
 item:=fun X hP hw hK hc i pins s σ H E I hf st go=>by
  subst hP hw hK
  obtain⟨⟨old,he⟩,h1⟩:=st
  obtain⟨xs,x,q1,e1⟩:=go
  obtain⟨its1,r1,p1,_⟩:=I.list q1
  obtain⟨u1,g1,ru1⟩:=gV r1 e1
  refine wpAny_pyNext_enum_item he h1 p1.isList g1 RA fun h' a1 a3 a5 a6 a7=>⟨_,rfl,?_⟩
  refine wpAny_letOwnedTupleGo_enum a1 fun h'' b1 b2 =>?_
  have Mq:s.heap.objs.size≠e:=iH (Jf he) (Jd _)
  have kp:∀c o,c∉[e,it]->s.heap.get? c=some o->h''.get? c=some o:=fun c o hc z=>by
   simp only[Jm,J7,or_false,not_or] at hc
   exact b2.extBut c o hc.1 (a7 c o hc.1 hc.2 z)
  have I1:Inv X pins σ H { s with heap:=h'',toks:=s.toks+1 }:=I.iter hf kp
  have fT:eu X pins H s.heap.objs.size:=I.eC (Jd _) (I.bB.fresh (Jd _))
  have oT:h''.get? s.heap.objs.size=some { cls := .type "tuple",data := .seq #[.int i s.toks,u1] }:=b2.extBut _ _ Mq a5
  have I2:=I1.adopt (T:=s.heap.objs.size) (o := .tup [.int i,x]) fT I.sz ⟨by show 2<=sizeLine;decide,[.int i s.toks,u1],.cons ⟨_,rfl⟩ (.cons ru1 .nil),⟨_,oT,rfl,rfl,_,rfl⟩⟩
  refine⟨.ref s.heap.objs.size,_,I2,rfl,⟨_,rfl,fT.1,fun xs' x' q1' e1' =>?_⟩,⟨⟨_,by
   have b1:IsEnum h'' e it ((i:Int)+1) u1:=b1
   have z:(((i+1:Nat):Int))=(i:Int)+1:=by omega
   show IsEnum h'' e it ((i+1:Nat):Int) _
   rw[z];exact b1⟩,a3.extBut b2.extBut (Ne.symm RA)⟩,fun c hc =>?_⟩
  ·rw[I.gK q1' q1] at e1'
   rw[e1] at e1';cases e1';rfl
  ·have xW:c<s.heap.objs.size:=by
    simp at hc
    obtain⟨_,h1,_⟩:=h1
    rcases hc with rfl|rfl
    ·exact Jf he
    ·exact Jf h1
   rw[ao (cu xW (Jd _))]
   exact(hf c hc).1
 done:=fun X hP hw hK hc i pins s σ H E I hf st stop=>by
  subst hP hw hK
  obtain⟨⟨old,he⟩,h1⟩:=st
  obtain⟨xs,q1,e⟩:=stop
  obtain⟨its1,r1,p1,_⟩:=I.list q1
  have Sm:=r1.length
  refine wpAny_pyNext_enum_end (I.ok.hd hc) he h1 p1.isList (by simp;omega) fun h' kp=>⟨rfl,?_⟩
  refine I.iter (ch:=[it]) (t':=s.toks) (fun c hc=>hf c (by simp at hc ⊢;simp[hc])) fun c o hc z=>kp c o (fun q=>hc (by simp[q])) z
 self:=fun A i s Q E st hQ=>by
  obtain⟨⟨old,he⟩,_⟩:=st
  exact wpAny_pyIter_enum he hQ
section
variable {X:Cx}
def KR (K:Ja)(ta:TA):TI:=fun σ H R=>ta σ H fun vs H1=>∃a,vs=[.ref a]/\(∃xs,aM K H1 a xs)/\R (R0 K a) H1
theorem DS {elts:List Expr}{k:Nat}{tp:Pos}{a:Expr}{ta:TA}{p pos:Pos}(hg:Gl X "enumerate")(hm:X.mg "enumerate" = none)(ha:PA X [a] ta)(hb:bootBuiltins "enumerate" = some (.type "enumerate"):=by first|rfl|decide)(hs:starEach [a] X.env=[(false,eval a X.env)]:=by rfl):
  PI X (.Tuple elts k tp) (.Call (.Name "enumerate" p) [a] [] pos) (KR X.K ta):=by
 intro pins s σ H R I h
 refine Call_ (dU I hg hm hb (PyProof.Rows.callWith_type1 (bG (ha s σ H _ I h) fun us s1 hz_=>aj.el hz_ _ fun vs H1 I1 r1 q1 =>?_) hs rfl))
 obtain⟨l1,e,⟨xs,q1⟩,q⟩:=q1
 subst e
 obtain⟨u,rfl,ru⟩:=vals1 r1
 cases ru
 obtain⟨its1,rv1,p1,_⟩:=I1.list q1
 have a1:l1<s1.heap.objs.size:=by obtain⟨_,e,_⟩:=p1.isList;exact Jf e
 refine call_enumerate_list p1.isList (fun h' he hi1 hsz hk =>?_)
 refine wpAny_pyIter_enum he ?_
 have I2:Inv X pins σ H1 { s1 with heap:=h' }:=I1.kept (t':=s1.toks) hk
 refine⟨_,_,_,_,H1,rfl,I2,zY _ _ _ (Nat.succ_ne_self _) (Jk (Nat.lt_succ_of_lt a1)) (Jk a1),⟨⟨_,he⟩,hi1⟩,fun c hc =>?_,q⟩
 have xW:s1.heap.objs.size<=c:=by
  simp at hc
  rcases hc with rfl|rfl
  ·exact Ug _ _
  ·exact Jd _
 exact I1.eC xW (I1.bB.fresh xW)
end
section
variable {X:Cx}
def MH:R2:=fun x y H Q=>(fE fun i j=>x = .int i/\y = .int j/\Q (.int (i+j)) H)∨(∃i j,x = .str i/\y = .str j/\i.length+j.length<=sizeLine/\Q (.str (i++j)) H)∨Mr x y H Q
theorem Kb:fL X (binaryOp .Add) MH:=HG.or (wB.or IH)
def JU:R2:=fun x y H Q=>(fE fun i j=>x = .int i/\y = .int j/\wD i j/\Q (.int (i*j)) H)∨KY x y H Q
theorem LN:fL X (binaryOp .Mult) JU:=Ic.or Gq
structure Fn (P:Program)(w:World)(K:Ja)(mg:Str->Option Value)(base:Heap)(k:Nat)(x:Str)(ps:List Str)(sp:Sp):Prop where
 ex:∃f fd,bC P w K mg base gG k f fd ps sp/\Binds K fd ps []/\Ye K (.ref f)=true/\mg x=some (.ref f)
theorem Fn.mono {P:Program}{w:World}{K:Ja}{mg:Str->Option Value}{base:Heap}{j k:Nat}{x:Str}{ps:List Str}{sp:Sp}(F:Fn P w K mg base j x ps sp)(h:j<=k):Fn P w K mg base k x ps sp:=by
 refine aj.el (F.ex) _ ?_
 rintro f fd a b c d
 exact⟨f,fd,a.mono h,b,c,d⟩
theorem aO {k:Nat}{x:Str}{ps:List Str}{sp:Sp}{p pos:Pos}{e:Expr}{es:List Expr}{t:TA}(F:Fn X.prog X.w X.K X.mg X.base k x ps sp)(hr:dw k X.A)(hg:Gl X x)
  (ha:PA X (e::es) t) (o8:(x==("__debug__" : Str))=false:=by decide) (he:starEach (e::es) X.env=(false,eval e X.env)::starEach es X.env:=by rfl) (rD:(backTo pos (starEach es X.env)).any (·.1)=false:=by rfl) :
  PE X (.Call (.Name x p) (e::es) [] pos) (sV sp [] E0 t):=by
 refine aj.el (F.ex) _ ?_
 rintro f fd a b c d
 exact ER a hr hg d c b .nil FU ha o8 he rD
end
noncomputable def xI (pn sn:List (Str×NameKind))(N Fc:List Str)(js:List Nat):Bool:=
 sn.all (fun y=>y.2 != .cell)&&sn.all (fun y=>y.2 != .local||sn.lookup y.1==some .local)&&sn.all (fun y=>y.2 != .free||pn.lookup y.1==some .cell||pn.lookup y.1==some .free)&&js.length==Fc.length &&
 (Wb Fc.length).all fun k=>match Fc[k]?,js[k]? with
  | some x,some j=>sn.lookup x==some .free&&N[j]? == some x
  | _,_=>false
theorem cP {X:Cx}{scope:Scope}{Nc Fc:List Str}{js:List Nat}(hk:scope.kind = .function:=by rfl)(h:xI X.env.scope.names scope.names X.N Fc js=true:=by rfl):ic X scope Nc Fc js:=by
 unfold xI at h
 simp -iota only [Jw,Yk,Bool.or_eq_true,bne_iff_ne,beq_iff_eq,ne_eq] at h
 obtain⟨⟨⟨⟨h1,h2⟩,h3⟩,h4⟩,h5⟩:=h
 refine⟨hk,h1,fun y hy hl=>(h2 y hy).resolve_left (fun z=>z hl),fun y hy hf =>?_,fun k x hx =>?_,h4⟩
 ·rcases h3 y hy with (z|z)|z
  ·exact absurd hf z
  ·exact .inl z
  ·exact .inr z
 ·have Vq:k<Fc.length:=(Jp.mp hx).1
  have q:=h5 k (List.mem_range.mpr Vq)
  have hj:k<js.length:=by omega
  rw[hx,Jc hj] at q
  simp only[Jw,beq_iff_eq] at q
  exact⟨q.1,_,Jc hj,q.2⟩
section
variable {X:Cx}
theorem Qy (hu:X.A.units+64<cLine):fL X (compareOp .Eq) (fun x y H Q=>QK x y H Q∨(∃d e,Den X.K H d x/\Den X.K H e y/\SeqAt.shaped d=true/\SeqAt.shaped e=true/\Q (.bl (PyData.eqv d e)) H)):=K1.or (GR hu)
theorem NS (hu:X.A.units+64<cLine):fL X (compareOp .NotEq) (fun x y H Q=>Pp x y H Q∨(∃d e,Den X.K H d x/\Den X.K H e y/\SeqAt.shaped d=true/\SeqAt.shaped e=true/\Q (.bl (!PyData.eqv d e)) H)):=Kn.or (Hv hu)
theorem DU:fL X (compareOp .Is) (fun x y H Q=>(y = .non/\Q (.bl (decide (x = .non))) H)∨(∃a b,x = .bl a/\y = .bl b/\Q (.bl (decide (a=b))) H)):=Hu.or GW
theorem qD:fL X (compareOp .IsNot) (fun x y H Q=>(y = .non/\Q (.bl (!decide (x = .non))) H)∨(∃a b,x = .bl a/\y = .bl b/\Q (.bl (!decide (a=b))) H)):=EF.or An
theorem LK:C6 X (fun x lo hi H Q=>Ij X.K x lo hi H Q∨(∃z,x = .str z/\z.length<=sizeLine/\Q (.str (Txt.slice z lo hi)) H)):=EJ.or Iy
structure Nm (mg:Str->Option Value):Prop where
 n_len:mg "len" = none
 n_range:mg "range" = none
 n_max:mg "max" = none
 n_min:mg "min" = none
 n_sum:mg "sum" = none
 n_all:mg "all" = none
 n_any:mg "any" = none
 n_list:mg "list" = none
 n_tuple:mg "tuple" = none
 n_int:mg "int" = none
 n_str:mg "str" = none
 n_bool:mg "bool" = none
 n_zip:mg "zip" = none
 n_enumerate:mg "enumerate" = none
 n_isinstance:mg "isinstance" = none
 n_divmod:mg "divmod" = none
end
theorem dj {J:It}{n:Nat}{js:List Nat}{g:TG}{tc:TT}{te:TE}{σ:St}{H1:Hp}{fin:List V->Hp->Prop}(N:Nat)(Pv:Nat->List V->Hp->Prop)(h0:Pv 0 [] H1)
  (go:∀i ys H (Nx:List V->Hp->Prop),i<N->Pv i ys H->(∀ys' H',Pv (i+1) ys' H'->Nx ys' H')->J.go i H/\ys.length<sizeLine /\
   ∀x H',J.yld i H x H'->g x (Jv n none++eI σ js) H' fun σ2 H2=>tc σ2 H2 fun b H3=>if b=true then te σ2 H3 fun y H4=>Nx (ys++[y]) H4 else Nx ys H3)
  (stop:∀ys H,Pv N ys H->J.stop N H/\fin ys H):Ct J n js g tc te σ H1 fin:=by
 refine⟨fun i m ys H=>m=N-i/\i<=N/\Pv i ys H,⟨N,by simp,Uw _,h0⟩,?_⟩
 intro i m ys H
 refine aj.go ?_
 rintro rfl hi p
 by_cases ji:i<N
 ·exact .inr (go i ys H (fun ys' H'=>∃m',m'<N-i/\(m'=N-(i+1)/\i+1<=N/\Pv (i+1) ys' H')) ji p fun ys' H' q=>⟨_,by omega,rfl,ji,q⟩)
 ·have e:i=N:=by omega
  subst e
  exact .inl (stop ys H p)
section
variable {X:Cx}(K:Ja)
theorem eB (hK:X.K=K:=by rfl):C8 X (Ra K):=by subst hK;exact Ge
theorem QQ (hK:X.K=K:=by rfl):C6 X (fun x lo hi H Q=>Ij K x lo hi H Q∨(∃z,x = .str z/\z.length<=sizeLine/\Q (.str (Txt.slice z lo hi)) H)):=by subst hK;exact LK
theorem dQ (hK:X.K=K:=by rfl):bN X (.builtin "len") (fun xs H Q=>∃x n,xs=[x]/\ym K x H n/\Q (.int n) H):=by subst hK;exact Be
theorem AA {tg l:Expr}{tl:TE}(hl:PE X l tl)(hK:X.K=K:=by rfl):PI X tg l (xN K tl):=by subst hK;exact Ec hl
theorem tupK {pos:Pos}{es:List Expr}{k:Nat}{t:y8}(n:Nat)(hc:X.calm=true)(h:Le X es t)(hn:(assignEach es X.env).length=n:=by rfl)(kM:(assignEach es X.env).findIdx? (·.1)=none:=by rfl)(hK:X.K=K:=by rfl):PG X (.Tuple es k pos) (Ik K n t):=by subst hK;exact Hf hc h hn kM
theorem yN {o e:Expr}{es:List Expr}{to:TE}{t:TA}{name:Str}{apos eg:Pos}{T id:String}{r:V->List V->Hp->VK->Prop}(pa:PlainAttrs T)(slot:Slot T name id)(Hs:typeOf (.builtin id)=pure (.type "method_descriptor"))(hm:FJ X id r)(ho:PE X o to)(ha:PA X (e::es) t)
  (kg:attributeBase o name X.env (eval o X.env)=eval o X.env:=by rfl)
  (yq:((backTo eg (starEach (e::es) X.env)).all (fun x => !x.1)&&(backToKw eg (keywordEach [] X.env)).all (fun x=>x.1.isSome)
   && decide ((e::es).length+([]:List Keyword).length+(if ([]:List Keyword).isEmpty then 0 else 1)<30))=true:=by rfl)
  (kr:(apos.endLine==eg.line)=true:=by rfl) (hs:starEach (e::es) X.env=(false,eval e X.env)::starEach es X.env:=by rfl) (vc:(backTo eg (starEach es X.env)).any (·.1)=false:=by rfl) (hK:X.K=K:=by rfl) :
  PE X (.Call (.Attribute o name apos) (e::es) [] eg) (Rt K T r to t):=by subst hK;exact Ll pa slot Hs hm ho ha kg yq kr hs vc
theorem Ke {o:Expr}{to:TE}{name:Str}{apos eg:Pos}{T id:String}{r:V->List V->Hp->VK->Prop}(pa:PlainAttrs T)(slot:Slot T name id)(Hs:typeOf (.builtin id)=pure (.type "method_descriptor"))(hm:FJ X id r)(ho:PE X o to)
  (kg:attributeBase o name X.env (eval o X.env)=eval o X.env:=by rfl) (kr:(apos.endLine==eg.line)=true:=by rfl) (hK:X.K=K:=by rfl):PE X (.Call (.Attribute o name apos) [] [] eg) (Lp K T r to):=by subst hK;exact Gw pa slot Hs hm ho kg kr
theorem jM (hu:X.A.units+64<cLine)(hK:X.K=K:=by rfl):fL X (compareOp .Eq) (fun x y H Q=>QK x y H Q∨(∃d e,Den K H d x/\Den K H e y/\SeqAt.shaped d=true/\SeqAt.shaped e=true/\Q (.bl (PyData.eqv d e)) H)):=by subst hK;exact Qy hu
theorem zj (hu:X.A.units+64<cLine)(hK:X.K=K:=by rfl):fL X (compareOp .NotEq) (fun x y H Q=>Pp x y H Q∨(∃d e,Den K H d x/\Den K H e y/\SeqAt.shaped d=true/\SeqAt.shaped e=true/\Q (.bl (!PyData.eqv d e)) H)):=by subst hK;exact NS hu
end
abbrev Keeps (g h:Heap)(c:Addr->Prop):Prop:=∀b o,¬c b->g.get? b=some o->h.get? b=some o
structure tS (prog:Program)(w:World)(A:Around)(it S:Addr)(T:String)(fp:Addr->Prop)(n:Nat)(P:Nat->Value->Heap->Prop)(R:Value->Value->Prop)(St:Nat->Heap->Prop):Prop where
 sfp:¬fp S
 ne:it≠S
 ty:∀i h,St i h->∃o,h.get? it=some o/\o.cls = .type T
 self:∀(s:Shared) (Q:Value->Shared->Prop) (E:Value->Shared->Prop),St 0 s.heap->Q (.ref it) s->wpAny (model prog w) A (pyIter (.ref it)) Q E s
 item:∀i (s:Shared) (Q:Option Value->Shared->Prop) (E:Value->Shared->Prop),i<n->St i s.heap->S<s.heap.objs.size ->
  (∀v h' tk,Keeps s.heap h' fp->St (i+1) h'->P i v h'->(∀j u,P j u s.heap->R u v)->Q (some v) { s with heap:=h',toks:=tk })->wpAny (model prog w) A (pyNext (.ref it)) Q E s
 stop:∀(s:Shared) (Q:Option Value->Shared->Prop) (E:Value->Shared->Prop),St n s.heap->S<s.heap.objs.size->(∀h' tk,Keeps s.heap h' fp->Q none { s with heap:=h',toks:=tk })->wpAny (model prog w) A (pyNext (.ref it)) Q E s
 keepS:∀i h h',St i h->Keeps h h' (· = S)->St i h'
 keepP:∀j v h h',P j v h->Keeps h h' (fun b=>fp b∨b=S)->P j v h'
 nolen:typeLookup (.type T) "__len__" = pure none
 nohint:typeLookup (.type T) "__length_hint__" = pure none
 nl:(Value.type T==Value.type "list")=false
 nt:(Value.type T==Value.type "tuple")=false
structure oy (h:Heap)(S:Addr)(i:Nat)(P:Nat->Value->Heap->Prop)(R:Value->Value->Prop)(acc:Array Value)(c:Nat):Prop where
 ob:h.get? S=some { cls := .type "list",data := .seq acc c }
 sz:acc.size=i
 pw:acc.toList.Pairwise R
 all:∀(j:Nat) v,acc[j]? = some v->P j v h
abbrev rq (prog:Program)(w:World)(A:Around)(R:Result->Shared->Prop):Fin->Shared->Prop:=fun fin s'=>match fin with
 | .done f=>R (.ok f) s'
 | .again c'=>c'.quiet=true/\codeAny (model prog w) A c' R s'
section
variable {prog:Program}{w:World}{A:Around}{it S:Addr}{T:String}{fp:Addr->Prop}{n:Nat}{P:Nat->Value->Heap->Prop}{R:Value->Value->Prop}{St:Nat->Heap->Prop}
abbrev mM (g:Heap)(S:Addr)(fp:Addr->Prop)(n:Nat)(P:Nat->Value->Heap->Prop)(R:Value->Value->Prop)(s:Shared)(Z:Shared->Prop):Prop:=
 ∀h' tk acc c,Keeps g h' (fun b=>fp b∨b=S)->oy h' S n P R acc c->Z { s with heap:=h',toks:=tk }
theorem qp (Fd:tS prog w A.in1 it S T fp n P R St)(hn:n<=sizeLine){s:Shared}{Z:Result->Shared->Prop}{res:Value}{g:Heap}(fin:mM g S fp n P R s (Z (.ok (.ret res)))):
  ∀(k i:Nat) (h:Heap) (tk:Nat) (acc:Array Value) (c:Nat),i+k=n->St i h->oy h S i P R acc c->Keeps g h (fun b=>fp b∨b=S) ->
   codeAny (model prog w) A (.builtin "list.extend.loop" ⟨[.ref S,.ref it,res],[]⟩) Z { s with heap:=h,toks:=tk }
 | 0,i,h,tk,acc,c,hk,kM,G,kp=>by
  have e:i=n:=by omega
  subst e
  refine codeAny_builtin PySem.F.entry_extend_loop ?_
  rw[Around.under_plainId PySem.F.plain_extend_loop _]
  refine wpAny_bind (Fd.stop { s with heap:=h,toks:=tk } _ _ kM (Jf G.ob) fun h' tk' k'=>wpAny_pure ?_)
  exact fin h' tk' acc c (fun b o nb q=>k' b o (fun z=>nb (.inl z)) (kp b o nb q)) ⟨k' _ _ Fd.sfp G.ob,G.sz,G.pw,fun j v e=>Fd.keepP _ _ _ _ (G.all j v e) fun b o nb q=>k' b o (fun z=>nb (.inl z)) q⟩
 | k+1,i,h,tk,acc,c,hk,kM,G,kp=>by
  refine codeAny_builtin PySem.F.entry_extend_loop ?_
  rw[Around.under_plainId PySem.F.plain_extend_loop _]
  refine wpAny_bind (Fd.item i { s with heap:=h,toks:=tk } _ _ (by omega) kM (Jf G.ob) fun v h' tk' k' st' pv rv =>?_)
  have LA:=k' _ _ Fd.sfp G.ob
  have other:Keeps h' (h'.update S (Obj.mapSeq (·.push v))) (· = S):=fun b o nb q=>(Ua _ _ (Ne.symm nb)).trans q
  have k2:Keeps h (h'.update S (Obj.mapSeq (·.push v))) (fun b=>fp b∨b=S):=fun b o nb q=>other b o (fun z=>nb (.inr z)) (k' b o (fun z=>nb (.inl z)) q)
  have sz:=G.sz
  refine wpAny_bind (wpAny_updateSeq LA rfl (wpAny_pure ⟨plainId_quiet PySem.F.plain_extend_loop _,?_⟩) (by rw[sz];omega) (by show(acc.push v).size<=sizeLine+1;rw[Array.size_push,sz];omega))
  refine qp Fd hn fin k (i+1) _ tk' (acc.push v) _ (by omega) (Fd.keepS _ _ _ st' other) ⟨Jz _ LA rfl,by rw[Array.size_push,sz],?_,fun j u e =>?_⟩ (fun b o nb q=>k2 b o nb (kp b o nb q))
  ·rw[Array.toList_push]
   refine Yw.mpr ⟨G.pw,List.pairwise_singleton _ _,fun a ha b hb =>?_⟩
   obtain⟨j,hj⟩:=U5.mp ha
   rw[Uc.mp hb]
   exact rv j a (G.all j a (by simpa using hj))
  ·by_cases hj:j<i
   ·rw[Array.getElem?_push_lt (by omega)] at e
    exact Fd.keepP _ _ _ _ (G.all j u (by rw[Ui (by omega)];exact e)) k2
   ·have Dc:j=i:=by
     have:=(Yb.mp e).1
     rw[Array.size_push] at this
     omega
    subst Dc
    have e':(acc.push v)[acc.size]? = some u:=by rw[sz];exact e
    rw[Array.getElem?_push_size] at e'
    cases e'
    exact Fd.keepP _ _ _ _ pv fun b o nb q=>other b o (fun z=>nb (.inr z)) q
theorem tK (Fd:tS prog w A.in1 it S T fp n P R St)(hn:n<=sizeLine){s:Shared}{Z:Result->Shared->Prop}{res:Value}{c₀:Nat}(kM:St 0 s.heap)(hS:s.heap.get? S=some { cls := .type "list",data := .seq #[] c₀ })
  (fin:mM s.heap S fp n P R s (Z (.ok (.ret res)))) :
  wpAny (model prog w) A.in1 (Builtin.List.listExtendWith (.ref S) (.ref it) res) (rq prog w A Z) (fun e s'=>Z (.error e) s') s:=by
 have go:∀(h:Heap) (c tk:Nat),Keeps s.heap h (· = S)->h.get? S=some { cls := .type "list",data := .seq #[] c } -> codeAny (model prog w) A (.builtin "list.extend.loop" ⟨[.ref S,.ref it,res],[]⟩) Z { s with heap:=h,toks:=tk }:=
  fun h c tk k o=>qp Fd hn fin n 0 h tk #[] c (by omega) (Fd.keepS _ _ _ kM k) ⟨o,rfl,.nil,fun j v e=>by simp at e⟩ fun b o nb q=>k b o (fun z=>nb (.inr z)) q
 obtain⟨oi,hoi,hci⟩:=Fd.ty 0 _ kM
 have hT:s.TypeIs (.ref it) T:=⟨oi,hoi,hci⟩
 have BL:Builtin.List.listSameRef (.ref S) (.ref it)=false:=by simp[Builtin.List.listSameRef,Ne.symm Fd.ne]
 unfold Builtin.List.listExtendWith
 refine wpAny_bind (wpAny_typeOf hT ?_)
 simp only[BL,Fd.nl,Fd.nt,Bool.or_false,U2,if_false]
 refine wpAny_bind (Fd.self s _ _ kM ?_)
 have hint:∀(Q:Bool->Shared->Prop),Q true s->wpAny (model prog w) A.in1 (Builtin.List.listLengthHint (.ref it)) Q (fun e s'=>Z (.error e) s') s:=fun Q q=>by
  unfold Builtin.List.listLengthHint
  refine wpAny_bind (wpAny_specialOf hT Fd.nolen ?_)
  refine wpAny_ite_split (fun z=>absurd z (by decide)) fun _=>wpAny_ite_split (fun z=>absurd z (by decide)) fun _ =>?_
  exact wpAny_bind (wpAny_specialOf hT Fd.nohint (wpAny_pure q))
 refine wpAny_bind (wpAny_holding (hint _ ?_))
 refine wpAny_ite_split (fun _ =>?_) fun _=>wpAny_pure ⟨plainId_quiet PySem.F.plain_extend_loop _,go _ c₀ _ (fun _ _ _ q=>q) hS⟩
 refine wpAny_bind (wpAny_rule (wpAny_bind ?_))
 have o1:=Jz (Obj.mapSeq (·.push Value.none)) hS rfl
 have o2:=Jz (Obj.mapSeq (·.pop)) o1 rfl
 refine wpAny_bind (wpAny_updateSeq hS rfl (wpAny_updateSeq (hz:=by seq_fits) o1 rfl (wpAny_pure ⟨plainId_quiet PySem.F.plain_extend_loop _,go _ _ _ (fun b o nb q =>?_) o2⟩)))
 exact(Ua _ _ (Ne.symm nb)).trans ((Ua _ _ (Ne.symm nb)).trans q)
theorem zM (Fd:tS prog w A.in1 it S T fp n P R St)(hn:n<=sizeLine){s:Shared}{Z:Result->Shared->Prop}(kM:St 0 s.heap)(hS:s.heap.get? S=some { cls := .type "list",data := .seq #[] })
  (fin:mM s.heap S fp n P R s (Z (.ok (.ret .none)))) :
  wpAny (model prog w) A.in1 (Builtin.«list.__init__» ⟨[.ref S,.ref it],[]⟩) (rq prog w A Z) (fun e s'=>Z (.error e) s') s:=by
 refine wpAny_bind ?_
 unfold Builtin.List.listItems
 refine wpAny_bind (wpAny_seqItems hS rfl (wpAny_pure ?_))
 have o1:=Jz (Obj.mapSeq (fun _=>(#[]:Array Value))) hS rfl
 have k1:Keeps s.heap (s.heap.update S (Obj.mapSeq (fun _=>(#[]:Array Value)))) (· = S):=fun b o nb q=>(Ua _ _ (Ne.symm nb)).trans q
 refine wpAny_bind (wpAny_updateSeq hS rfl (wpAny_bind (wpAny_letGo ?_)))
 refine tK (s:={ s with heap:=_ }) Fd hn (Fd.keepS _ _ _ kM k1) o1 fun h' tk acc c k G =>?_
 exact fin h' tk acc c (fun b o nb q=>k b o nb (k1 b o (fun z=>nb (.inr z)) q)) G
theorem pJ {s:Shared}{Q:Value->Shared->Prop}{E:Value->Shared->Prop}(Fd:tS prog w A.in1.in1 it s.heap.objs.size T fp n P R St)(hn:n<=sizeLine)(kM:∀o,St 0 (s.heap.push o))
  (fin:∀h' tk acc c,Keeps s.heap h' fp->oy h' s.heap.objs.size n P R acc c->Q (.ref s.heap.objs.size) { s with heap:=h',toks:=tk }) :
  wpAny (model prog w) A (call (.type "list") [.ref it]) Q E s:=by
 refine callType_codes (Q₁:=fun obj s₁=>obj = .ref s.heap.objs.size/\s₁={ s with heap:=s.heap.push { cls := .type "list",data := .seq #[] } }) F.called_list (F.typeCall_list_1 _) F.entry_list_init
  (code_list_new _ ⟨rfl,rfl⟩) fun obj s₁ h₁ =>?_
 obtain⟨rfl,rfl⟩:=h₁
 have hS:(s.heap.push { cls := .type "list",data := .seq #[] }).get? s.heap.objs.size=some { cls := .type "list",data := .seq #[] }:=Ji _ rfl
 refine⟨⟨_,hS,rfl⟩,F.args_list_init_2 _ _,zM (s:={ s with heap:=_ }) (A:=A.in1) Fd hn (kM _) hS fun h' tk acc c k G=>⟨rfl,fin h' tk acc c (fun b o nb q =>?_) G⟩⟩
 exact k b o (fun z=>z.elim nb fun z=>cu (Jf q) (Jd _) z) (Jb _ q)
end
abbrev gB (h:Heap)(z TI TO a:Addr)(f:Bool):Prop:=
 h.get? z=some { cls := .type "zip",dict:=none,data := .fields #[rawInt a,.bool f,.bool false,.ref TI,.ref TO],slots := #[] }
section
variable {prog:Program}{w:World}{A:Around}{E:Value->Shared->Prop}{s:Shared}{z TI TO i1 i2 l1 l2 a:Addr}{f:Bool}{oa:Obj}
theorem kT {Q:Bool->Shared->Prop}(hz:gB s.heap z TI TO a f)(ha:s.heap.get? a=some oa)
  (q:∀h,gB h z TI TO a true->U0 z s.heap h->Q false { s with heap:=h }):wpAny (model prog w) A (Builtin.SmallTypes.ownedTupleIsFree (.ref z)) Q E s:=by
 unfold Builtin.SmallTypes.ownedTupleIsFree
 refine wpAny_bind (wpAny_field hz rfl (x:=rawInt a) rfl ?_)
 show wpAny _ _ (loadIfAlive ((a:Int).toNat) >>= _) _ _ _
 rw[Y1]
 refine wpAny_bind (PySem.W.kdx_alive ha ?_)
 simp -iota only [Option.isNone_some,U2,if_false]
 refine wpAny_bind (wpAny_field hz rfl (x := .bool f) rfl ?_)
 cases f
 ·exact wpAny_bind (wpAny_setField_rec hz (by simp) fun h e k=>wpAny_pure (q h e k))
 ·exact wpAny_pure (q s.heap hz (U0.refl _ _))
theorem rj {k:Nat}{xs ys:Array Value}{x y:Value}{Q:Option Value->Shared->Prop}(D:ZipApart z TI TO i1 i2 l1 l2)(hz:gB s.heap z TI TO a f)(ha:s.heap.get? a=some oa)(kj:IsPair s.heap TI (.ref i1) (.ref i2))
  (h1:s.heap.IsListIter i1 l1 k) (h2:s.heap.IsListIter i2 l2 k) (mf:s.heap.IsList l1 xs) (uX:s.heap.IsList l2 ys) (hx:xs[k]? = some x) (hy:ys[k]? = some y)
  (q:∀h',gB h' z TI TO a true->h'.IsListIter i1 l1 (k+1)->h'.IsListIter i2 l2 (k+1)->IsPair h' s.heap.objs.size x y->Keeps s.heap h' (fun b=>b=z∨b=i1∨b=i2)->Q (some (.ref s.heap.objs.size)) { s with heap:=h' }) :
  wpAny (model prog w) A (pyNext (.ref z)) Q E s:=by
 have hT:s.TypeIs (.ref z) "zip":=⟨_,hz,rfl⟩
 unfold pyNext
 refine wpAny_bind (wpAny_attempt (wpAny_callSpecial?_slot (name:=Str.ofString "__next__") hT F.slot_zip_next (wpAny_call_entry F.slot_zip_next hT F.entry_zip_next ?_ (F.args_zip_next_1 _))))
 change wpAny _ _ (Bind.bind (field (.ref z) 2) _) _ _ _
 refine wpAny_bind (wpAny_field hz rfl (x := .bool false) rfl ?_)
 change wpAny _ _ (Bind.bind (field (.ref z) 3) _) _ _ _
 refine wpAny_bind (wpAny_field hz rfl (x := .ref TI) rfl (wpAny_bind (wpAny_seqItems kj rfl ?_)))
 change wpAny _ _ (Bind.bind (Builtin.SmallTypes.ownedTupleIsFree (.ref z)) _) _ _ _
 refine wpAny_bind (kT hz ha fun h0 z0 k0 =>?_)
 simp -iota only [U2,if_false,<-Array.forIn_toList,Yh,Yx]
 refine wpAny_bind (wpAny_bind (wpAny_bind (wpAny_holding (wpAny_bind (wpAny_nextOf_list_item (h1.extBut k0.extBut D.i1z) (mf.extBut k0.extBut D.l1z) hx fun h4 e4 k4=>wpAny_pure (wpAny_pure ?_))))))
 refine wpAny_bind (wpAny_bind (wpAny_holding (wpAny_bind (wpAny_nextOf_list_item ((h2.extBut k0.extBut D.i2z).extBut k4.extBut D.i12.symm) ((uX.extBut k0.extBut D.l2z).extBut k4.extBut D.l2i1) hy fun h5 e5 k5=>wpAny_pure (wpAny_pure (wpAny_pure ?_))))))
 refine wpAny_bind (wpAny_newTuple (hsz:=by show 2<=sizeLine;decide) (wpAny_pure ⟨_,rfl,wpAny_pure ?_⟩))
 have hsz:h5.objs.size=s.heap.objs.size:=by rw[k5.1,k4.1,k0.1]
 show Q (some (.ref h5.objs.size)) _
 rw[hsz]
 refine q (h5.push { cls := .type "tuple",data := .seq #[x,y] }) (Jb _ (k5.extBut _ _ D.i2z.symm (k4.extBut _ _ D.i1z.symm z0))) ((e4.extBut k5.extBut D.i12).at fun o e=>Jb _ e) (e5.at fun o e=>Jb _ e) (by rw[<-hsz];exact Ji _ rfl) fun b o nb e =>?_
 exact Jb _ (k5.extBut _ _ (fun z=>nb (.inr (.inr z))) (k4.extBut _ _ (fun z=>nb (.inr (.inl z))) (k0.extBut _ _ (fun z=>nb (.inl z)) e)))
theorem qu {k:Nat}{xs ys:Array Value}{Q:Option Value->Shared->Prop}(hh:A.handled=none)(D:ZipApart z TI TO i1 i2 l1 l2)(hz:gB s.heap z TI TO a f)(ha:s.heap.get? a=some oa)(kj:IsPair s.heap TI (.ref i1) (.ref i2))
  (h1:s.heap.IsListIter i1 l1 k) (h2:s.heap.IsListIter i2 l2 k) (mf:s.heap.IsList l1 xs) (uX:s.heap.IsList l2 ys) (he:xs[k]? = none∨ys[k]? = none)
  (q:∀h',Keeps s.heap h' (fun b=>b=z∨b=i1∨b=i2)->Q none { s with heap:=h' }) :
  wpAny (model prog w) A (pyNext (.ref z)) Q E s:=by
 have hT:s.TypeIs (.ref z) "zip":=⟨_,hz,rfl⟩
 unfold pyNext
 refine wpAny_bind (wpAny_attempt (wpAny_callSpecial?_slot (name:=Str.ofString "__next__") hT F.slot_zip_next (wpAny_call_entry F.slot_zip_next hT F.entry_zip_next ?_ (F.args_zip_next_1 _))))
 change wpAny _ _ (Bind.bind (field (.ref z) 2) _) _ _ _
 refine wpAny_bind (wpAny_field hz rfl (x := .bool false) rfl ?_)
 change wpAny _ _ (Bind.bind (field (.ref z) 3) _) _ _ _
 refine wpAny_bind (wpAny_field hz rfl (x := .ref TI) rfl (wpAny_bind (wpAny_seqItems kj rfl ?_)))
 change wpAny _ _ (Bind.bind (Builtin.SmallTypes.ownedTupleIsFree (.ref z)) _) _ _ _
 refine wpAny_bind (kT hz ha fun h0 z0 k0 =>?_)
 simp -iota only [U2,if_false,<-Array.forIn_toList,Yh,Yx]
 refine wpAny_bind (wpAny_bind (wpAny_bind (wpAny_holding ?_)))
 cases hx:xs[k]? with
 | none=>
  refine wpAny_bind (wpAny_nextOf_list_end hh (h1.extBut k0.extBut D.i1z) (mf.extBut k0.extBut D.l1z) hx fun h4 e k4 oe =>?_)
  refine aj.el (oe) _ ?_
  rintro o ho hc
  exact wpAny_bind (wpAny_isInstance (T := "StopIteration") (b:=true) ⟨o,ho,hc⟩ isSubtype_stop (wpAny_pure (q h4 fun b o nb x=>k4 _ _ (fun z=>nb (.inr (.inl z))) (k0.extBut _ _ (fun z=>nb (.inl z)) x))))
 | some x=>
  have hy:ys[k]? = none:=he.resolve_left (by rw[hx];exact fun z=>nomatch z)
  refine wpAny_bind (wpAny_nextOf_list_item (h1.extBut k0.extBut D.i1z) (mf.extBut k0.extBut D.l1z) hx fun h4 e4 k4=>wpAny_pure (wpAny_pure ?_))
  refine wpAny_bind (wpAny_bind (wpAny_holding (wpAny_bind (wpAny_nextOf_list_end hh ((h2.extBut k0.extBut D.i2z).extBut k4.extBut D.i12.symm) ((uX.extBut k0.extBut D.l2z).extBut k4.extBut D.l2i1) hy fun h5 e k5 oe =>?_))))
  refine aj.el (oe) _ ?_
  rintro o ho hc
  exact wpAny_bind (wpAny_isInstance (T := "StopIteration") (b:=true) ⟨o,ho,hc⟩ isSubtype_stop (wpAny_pure (q h5 fun b o nb x=>k5 _ _ (fun z=>nb (.inr (.inr z))) (k4.extBut _ _ (fun z=>nb (.inr (.inl z))) (k0.extBut _ _ (fun z=>nb (.inl z)) x)))))
end
structure uG (z TI TO i1 i2 l1 l2 S:Addr)(xs ys:Array Value)(i:Nat)(h:Heap):Prop where
 ti:IsPair h TI (.ref i1) (.ref i2)
 to:∃a b,IsPair h TO a b
 it1:h.IsListIter i1 l1 i
 it2:h.IsListIter i2 l2 i
 a1:h.IsList l1 xs
 a2:h.IsList l2 ys
 zp:IsZip h z TI TO .none∨0<i/\∃a f oa,gB h z TI TO a f/\h.get? a=some oa/\S<a
abbrev lZ (z TO i1 i2:Addr)(b:Addr):Prop:=b=z∨b=TO∨b=i1∨b=i2
abbrev rL (S:Addr)(xs ys:Array Value)(j:Nat)(v:Value)(h:Heap):Prop:=mI fun a x y=>v = .ref a/\S<a/\xs[j]? = some x/\ys[j]? = some y/\IsPair h a x y
abbrev iY (u v:Value):Prop:=∃a b:Addr,u = .ref a/\v = .ref b/\a<b
theorem sL {prog:Program}{w:World}{A:Around}{z TI TO i1 i2 l1 l2 S:Addr}{xs ys:Array Value}(hh:A.handled=none)(D:ZipApart z TI TO i1 i2 l1 l2)(b1:z<S)(b2:TI<S)(b3:TO<S)(b4:i1<S)(b5:i2<S)(b6:l1<S)(b7:l2<S):
  tS prog w A z S "zip" (lZ z TO i1 i2) (min xs.size ys.size) (rL S xs ys) iY (uG z TI TO i1 i2 l1 l2 S xs ys) where
 sfp:=fun q=>by
  rcases q with q|q|q|q<;>(rw[q] at b1 b3 b4 b5;first|exact absurd b1 (Uj _)|exact absurd b3 (Uj _)|exact absurd b4 (Uj _)|exact absurd b5 (Uj _))
 ne:=Jk b1
 ty:=fun i h st=>by
  rcases st.zp with q|⟨_,a,f,oa,q,_⟩
  ·exact⟨_,q,rfl⟩
  ·exact⟨_,q,rfl⟩
 self:=fun s Q E st q=>by
  rcases st.zp with r|⟨r,_⟩
  ·exact wpAny_pyIter_zip r q
  ·exact absurd r (Uj _)
 item:=fun i s Q E hi st hS q=>by
  obtain⟨ti,⟨a,b,to⟩,it1,it2,a1,a2,zp⟩:=st
  have hx:xs[i]? = some (xs[i]'(by omega)):=Ui (by omega)
  have hy:ys[i]? = some (ys[i]'(by omega)):=Ui (by omega)
  have old:∀j u,rL S xs ys j u s.heap->iY u (.ref s.heap.objs.size):=fun j u hz_=>aj.el hz_ _ fun a x y e _ _ _ p=>⟨a,_,e,rfl,Jf p⟩
  rcases zp with r|⟨hi0,c,f,oc,r,oc',hc⟩
  ·refine wpAny_pyNext_zip_item D r ti to it1 it2 a1 a2 hx hy fun h' r1 r2 r3 r4 r5 r6 r7 =>?_
   have kp:Keeps s.heap h' (lZ z TO i1 i2):=fun b o nb e=>r7 b o (fun z=>nb (.inl z)) (fun z=>nb (.inr (.inl z))) (fun z=>nb (.inr (.inr (.inl z)))) (fun z=>nb (.inr (.inr (.inr z)))) e
   refine q _ h' s.toks kp ⟨r7 _ _ D.TIz D.TITO D.TIi1 D.TIi2 ti,⟨_,_,r2⟩,r3,r4,a1.at fun o e=>r7 _ _ D.l1z D.l1TO D.l1i1 D.l1i2 e,a2.at fun o e=>r7 _ _ D.l2z D.l2TO D.l2i1 D.l2i2 e,.inr ⟨Nat.succ_pos _,_,_,_,r1,r5,hS⟩⟩ ⟨_,_,_,rfl,hS,hx,hy,r5⟩ old
  ·have ne:∀{b:Addr},b<S->c≠b:=fun hb=>Uk (Nat.lt_trans hb hc)
   refine rj D r oc' ti it1 it2 a1 a2 hx hy fun h' r1 r2 r3 r4 r5 =>?_
   have kp:Keeps s.heap h' (lZ z TO i1 i2):=fun b o nb e=>r5 b o (fun z=>z.elim (fun z=>nb (.inl z)) fun z=>nb (.inr (.inr z))) e
   refine q _ h' s.toks kp ⟨r5 _ _ (fun z=>z.elim D.TIz fun z=>z.elim D.TIi1 D.TIi2) ti,⟨_,_,r5 _ _ (fun z=>z.elim D.TOz fun z=>z.elim D.TOi1 D.TOi2) to⟩,r2,r3,a1.at fun o e=>r5 _ _ (fun z=>z.elim D.l1z fun z=>z.elim D.l1i1 D.l1i2) e,a2.at fun o e=>r5 _ _ (fun z=>z.elim D.l2z fun z=>z.elim D.l2i1 D.l2i2) e,
    .inr ⟨Nat.succ_pos _,_,_,_,r1,r5 _ _ (fun z=>z.elim (ne b1) fun z=>z.elim (ne b4) (ne b5)) oc',hc⟩⟩ ⟨_,_,_,rfl,hS,hx,hy,r4⟩ old
 stop:=fun s Q E st hS q=>by
  obtain⟨ti,⟨a,b,to⟩,it1,it2,a1,a2,zp⟩:=st
  have he:xs[min xs.size ys.size]? = none∨ys[min xs.size ys.size]? = none:=by
   rcases Nat.le_total xs.size ys.size with h|h
   ·exact .inl (Yl (by omega))
   ·exact .inr (Yl (by omega))
  rcases zp with r|⟨hi0,c,f,oc,r,oc',hc⟩
  ·exact wpAny_pyNext_zip_end hh D r ti to it1 it2 a1 a2 he fun h' k=>q h' s.toks fun b o nb e=>k b o (fun z=>nb (.inl z)) (fun z=>nb (.inr (.inl z))) (fun z=>nb (.inr (.inr (.inl z)))) (fun z=>nb (.inr (.inr (.inr z)))) e
  ·exact qu hh D r oc' ti it1 it2 a1 a2 he fun h' k=>q h' s.toks fun b o nb e=>k b o (fun z=>z.elim (fun z=>nb (.inl z)) fun z=>nb (.inr (.inr z))) e
 keepS:=fun i h h' st k=>by
  obtain⟨ti,⟨a,b,to⟩,it1,it2,a1,a2,zp⟩:=st
  refine⟨k _ _ (Jk b2) ti,⟨a,b,k _ _ (Jk b3) to⟩,it1.at fun o e=>k _ o (Jk b4) e,it2.at fun o e=>k _ o (Jk b5) e,a1.at fun o e=>k _ o (Jk b6) e,a2.at fun o e=>k _ o (Jk b7) e,?_⟩
  rcases zp with r|⟨hi0,c,f,oc,r,oc',hc⟩
  ·exact .inl (k _ _ (Jk b1) r)
  ·exact .inr ⟨hi0,c,f,oc,k _ _ (Jk b1) r,k _ _ (Uk hc) oc',hc⟩
 keepP:=fun j v h h' ⟨a,x,y,e,ha,h1,h2,p⟩ k=>by
  have ne:∀{b:Addr},b<S->a≠b:=fun hb=>Uk (Nat.lt_trans hb ha)
  exact⟨a,x,y,e,ha,h1,h2,k _ _ (fun z=>z.elim (fun z=>z.elim (ne b1) fun z=>z.elim (ne b3) fun z=>z.elim (ne b4) (ne b5)) (Uk ha)) p⟩
 nolen:=by rw[typeLookup_type,builtinLookup_eq_fast];kernel_rfl
 nohint:=by rw[typeLookup_type,builtinLookup_eq_fast];kernel_rfl
 nl:=by decide
 nt:=by decide
theorem Inv.j8 {X:Cx}{pins:List (Addr×Obj)}{σ:St}:∀(as:List Addr) (ps:List (List V)) {H:Hp} {s:Shared},Inv X pins σ H s->as.Nodup->as.length=ps.length->(∀a∈as,eu X pins H a/\X.s₀.heap.objs.size<=a) ->
  (∀(j:Nat) a p,as[j]? = some a->ps[j]? = some p->p.length<=sizeLine/\∃aA:List Value,Vals p aA/\ux s.heap a aA.toArray) ->
  ∃H',Inv X pins σ H' s/\ak H H'/\(∀b,b∉as->H' b=H b)/\∀(j:Nat) a p,as[j]? = some a->ps[j]? = some p->H' a=some (.tup p)
 | [],ps,H,s,I,_,_,_,_=>⟨H,I,ak.refl H,fun _ _=>rfl,fun j a p h _=>by simp at h⟩
 | a::as,[],H,s,I,_,hl,_,_=>by simp at hl
 | a::as,p::ps,H,s,I,nd,hl,hf,ho=>by
  obtain⟨na,Qw⟩:=Yq.mp nd
  obtain⟨fa,sa⟩:=hf a Js
  obtain⟨hz,aA,rv,ht⟩:=ho 0 a p rfl rfl
  have I1:=I.adopt (T:=a) (o := .tup p) fa sa ⟨hz,aA,rv,ht⟩
  obtain⟨H',I',sm,same,all⟩:=Inv.j8 as ps I1 Qw (by simpa using hl) (fun b hb=>by
   obtain⟨fb,sb⟩:=hf b (Jo _ hb)
   exact⟨⟨by rw[ao (fun(e:b=a)=>na (by rw[<-e];exact hb))];exact fb.1,fb.2⟩,sb⟩) (fun j b q h1 h2=>ho (j+1) b q h1 h2)
  refine⟨H',I',fun b o e=>sm b o (by rw[ao (aF e fa.1)];exact e),fun b hb =>?_,fun j b q h1 h2 =>?_⟩
  ·rw[same b fun z=>hb (Jo _ z),ao (fun(z:b=a)=>hb (by rw[z];exact Js))]
  ·cases j with
   | zero=>
    cases h1;cases h2
    rw[same a na];exact aq
   | succ j=>exact all j b q h1 h2
theorem mE:∀{l:List Value},(∀v∈l,∃a:Addr,v = .ref a)->∃as:List Addr,l=as.map Value.ref
 | [],_=>⟨[],rfl⟩
 | v::r,h=>by
  obtain⟨a,rfl⟩:=h v Js
  obtain⟨as,rfl⟩:=mE fun u hu=>h u (Jo _ hu)
  exact⟨a::as,rfl⟩
section
variable {X:Cx}
def Su (K:Ja)(ta:TA):TE:=fun σ H Q=>ta σ H fun vs H1=>rX fun l1 l2 xs ys=>vs=[.ref l1,.ref l2]/\aM K H1 l1 xs/\aM K H1 l2 ys /\
 ∀H' p (as:List Addr),ak H1 H'->H1 p=none->H' p=some (.lst (as.map V.ref))->as.length=min xs.length ys.length ->
  (∀(j:Nat) a x y,as[j]? = some a->xs[j]? = some x->ys[j]? = some y->H1 a=none/\H' a=some (.tup [x,y]))->Q (.ref p) H'
theorem pS {xs ys:List V}(j:Nat)(x y:V)(hx:xs[j]? = some x)(hy:ys[j]? = some y):((xs.zip ys).map fun q=>[q.1,q.2])[j]? = some [x,y]:=by
 rw[Jl,(Yn (z:=(x,y))).mpr ⟨hx,hy⟩]
 rfl
theorem wF {a b:Expr}{ta:TA}{p p2 pos kf:Pos}(hc:X.calm=true)(Hb:Gl X "list")(IB:X.mg "list" = none)(KS:Gl X "zip")(Kv:X.mg "zip" = none)(ha:PA X [a,b] ta)
  (HA:bootBuiltins "list" = some (.type "list"):=by first|rfl|decide) (JR:bootBuiltins "zip" = some (.type "zip"):=by first|rfl|decide)
  (BP:starEach [.Call (.Name "zip" p2) [a,b] [] kf] X.env=[(false,eval (.Call (.Name "zip" p2) [a,b] [] kf) X.env)]:=by rfl)
  (hs:starEach [a,b] X.env=[(false,eval a X.env),(false,eval b X.env)]:=by rfl) (uF:starEach [b] X.env=[(false,eval b X.env)]:=by rfl) :
  PE X (.Call (.Name "list" p) [.Call (.Name "zip" p2) [a,b] [] kf] [] pos) (Su X.K ta):=by
 intro pins s σ H Q I h
 refine wpAny_Call_Name_kw (dU I Hb IB HA ?_)
 refine PyProof.Rows.callWith_type1 ?_ BP rfl
 rw[BP]
 show wpAny _ _ (spliced ((false,eval (.Call (.Name "zip" p2) [a,b] [] kf) X.env)::[])) _ _ _
 refine Calls.spliced_cons ?_
 refine Call_ (dU I KS Kv JR (PyProof.Rows.callWith_type1 (bG (ha s σ H _ I h) fun us s1 hz_=>aj.el hz_ _ fun vs H1 I1 r1 q1 =>?_) (by rw[hs,uF]) (by rw[uF];rfl)))
 obtain⟨l1,l2,xs,ys,e,q1,q2,q⟩:=q1
 subst e
 obtain⟨u,w',rfl,r1,r2⟩:=vals2 r1
 cases r1;cases r2
 obtain⟨its1,rv1,p1,hz1⟩:=I1.list q1
 refine aj.el (I1.list q2) _ ?_
 rintro its2 rv2 p2 hz2
 have e1:=rv1.length
 have e2:=rv2.length
 have a1:l1<s1.heap.objs.size:=by obtain⟨_,e,_⟩:=p1.isList;exact Jf e
 have a2:l2<s1.heap.objs.size:=by obtain⟨_,e,_⟩:=p2.isList;exact Jf e
 refine call_zip_2 p1.isList p2.isList fun h' hz kj rf hi1 hi2 hsz hk =>?_
 refine Calls.spliced_nil ?_
 have pM:s1.heap.objs.size<=h'.objs.size:=by rw[hsz];exact Ug _ _
 have iK:∀n,n<5->s1.heap.objs.size+n<h'.objs.size:=fun n hn=>by rw[hsz];exact Nat.add_lt_add_left hn _
 have zs:∀o,uG (s1.heap.objs.size+4) (s1.heap.objs.size+2) (s1.heap.objs.size+3) s1.heap.objs.size (s1.heap.objs.size+1) l1 l2 h'.objs.size its1.toArray its2.toArray 0 (h'.push o):=fun o=>
  ⟨Jb _ kj,⟨_,_,Jb _ rf⟩,hi1.at fun o e=>Jb _ e,hi2.at fun o e=>Jb _ e,(p1.isList.at fun o e=>hk _ o e).push _,(p2.isList.at fun o e=>hk _ o e).push _,.inl (Jb _ hz)⟩
 refine pJ (s:={ s1 with heap:=h' }) (sL (I.ok.hd hc) (zipApart_new a1 a2) (iK 4 (by decide)) (iK 2 (by decide)) (iK 3 (by decide)) (iK 0 (by decide)) (iK 1 (by decide)) (Jn a1 pM) (Jn a2 pM)) (by simp;omega) zs fun h2 tk acc c hk2 G =>?_
 obtain⟨C2,hsz2,hpw,gf⟩:=G
 obtain⟨as,gD⟩:=mE (l:=acc.toList) fun v hv=>by
  obtain⟨j,hj⟩:=U5.mp hv
  obtain⟨a,_,_,e,_⟩:=gf j v (by simpa using hj)
  exact⟨a,e⟩
 have iX:∀(j:Nat) a,as[j]? = some a->∃x y,h'.objs.size<a/\its1.toArray[j]? = some x/\its2.toArray[j]? = some y/\IsPair h2 a x y:=fun j a h=>by
  obtain⟨a',x,y,e,g⟩:=gf j (.ref a) (by
   have:acc.toList[j]? = some (.ref a):=by rw[gD,Jl,h];rfl
   simpa using this)
  cases e
  exact⟨x,y,g⟩
 have above:∀a∈as,h'.objs.size<a:=fun a ha=>by
  obtain⟨j,hj⟩:=U5.mp ha
  obtain⟨_,_,g,_⟩:=iX j a hj
  exact g
 have old:∀b o,s1.heap.get? b=some o->h2.get? b=some o:=fun b o e=>by
  have hb:=Jf e
  have gt:∀n,b≠s1.heap.objs.size+n:=fun n=>Jk (Jn hb (Ug _ _))
  exact hk2 b o (fun z=>z.elim (gt 4) fun z=>z.elim (gt 3) fun z=>z.elim (gt 0) (gt 1)) (hk b o e)
 have I2:Inv X pins σ H1 { s1 with heap:=h2,toks:=tk }:=I1.kept old
 have sf:∀a∈as,s1.heap.objs.size<=a:=fun a ha=>Uz (J3 pM (above a ha))
 have nd:as.Nodup:=by
  rw[gD,List.pairwise_map] at hpw
  exact hpw.imp fun hz_=>aj.el hz_ _ fun a b e1 e2 h=>by cases e1;cases e2;exact Jk h
 have eC:∀a,s1.heap.objs.size<=a->eu X pins H1 a/\X.s₀.heap.objs.size<=a:=fun a ha=>⟨I1.eC ha (I1.bB.fresh ha),Jg I1.sz ha⟩
 have Ej:as.length=min xs.length ys.length:=by
  have z:acc.toList.length=as.length:=by rw[gD,Je]
  simp at z hsz2
  omega
 obtain⟨H',I',sm,same,all⟩:=I2.j8 as ((xs.zip ys).map fun q=>[q.1,q.2]) nd (by rw[Je,Yi];omega) (fun a ha=>eC a (sf a ha)) (fun j a pp h1 h2'=>by
  refine aj.el (iX j a h1) _ ?_
  rintro x y _ g1 g2 g3
  refine aj.el (kR rv1 g1) _ ?_
  rintro vx gx rx
  refine aj.el (kR rv2 g2) _ ?_
  rintro vy gy ry
  have z:=pS j vx vy gx gy
  rw[z] at h2';cases h2'
  exact⟨by show 2<=sizeLine;decide,[x,y],.cons rx (.cons ry .nil),⟨_,g3,rfl,rfl,_,rfl⟩⟩)
 have A4:h'.objs.size∉as:=fun hm=>Uj _ (above _ hm)
 have mD:H1 h'.objs.size=none:=I1.bB.fresh pM
 obtain⟨fS,sS⟩:=eC h'.objs.size pM
 have Lz:eu X pins H' h'.objs.size:=⟨by rw[same _ A4];exact mD,fS.2⟩
 have I3:=I'.adopt (T:=h'.objs.size) (o := .lst (as.map V.ref)) Lz sS ⟨by rw[Je];omega,acc.toList,c,by
  rw[gD]
  clear C2 gD all same I' sm sf nd Ej A4 above iX
  induction as with
  | nil=>exact .nil
  | cons a r ih=>exact .cons rfl ih,by simpa using C2⟩
 refine⟨.ref h'.objs.size,_,I3,rfl,q _ _ as (fun b o e =>?_) mD aq Ej fun j a x y h1 h2' h3'=>⟨(eC a (sf a (Ju h1))).1.1,?_⟩⟩
 ·rw[ao (aF e mD)];exact sm b o e
 ·rw[ao (fun(z:a=h'.objs.size)=>A4 (by rw[<-z];exact Ju h1))]
  exact all j a [x,y] h1 (pS j x y h2' h3')
end
structure gJ (H:Hp)(p:Addr)(o:HO)(H':Hp):Prop where
 nn:H p=none
 eq:H'=upd H p o
theorem gJ.at {H H':Hp}{p:Addr}{o:HO}(n:gJ H p o H'):H' p=some o:=by rw[n.eq];exact aq
theorem gJ.ne {H H':Hp}{p a:Addr}{o:HO}(n:gJ H p o H')(h:a≠p):H' a=H a:=by rw[n.eq];exact ao h
theorem gJ.same {H H':Hp}{p:Addr}{o:HO}(n:gJ H p o H'):ak H H':=fun a u e=>by rw[n.ne (aF e n.nn)];exact e
theorem gJ.back {H H':Hp}{p a:Addr}{o:HO}(n:gJ H p o H')(h:H' a=none):H a=none:=by
 cases e:H a with
 | none=>rfl
 | some u=>rw[n.same a u e] at h;cases h
structure oZ (H:Hp)(p:Addr)(o:HO)(H':Hp):Prop where
 eq:H'=upd H p o
theorem oZ.at {H H':Hp}{p:Addr}{o:HO}(n:oZ H p o H'):H' p=some o:=by rw[n.eq];exact aq
theorem oZ.ne {H H':Hp}{p a:Addr}{o:HO}(n:oZ H p o H')(h:a≠p):H' a=H a:=by rw[n.eq];exact ao h
theorem qv {H:Hp}{o:HO}{F:Addr->Hp->Prop}:(∀p,H p=none->F p (upd H p o)) = ∀p H',gJ H p o H'->F p H':=
 propext ⟨fun h p H' n=>by rw[n.eq];exact h p n.nn,fun h p hp=>h p _ ⟨hp,rfl⟩⟩
theorem Ds {H:Hp}{p:Addr}{o:HO}{F:Hp->Prop}:F (upd H p o) = ∀H',oZ H p o H'->F H':=
 propext ⟨fun h H' n=>by rw[n.eq];exact h,fun h=>h _ ⟨rfl⟩⟩
section
variable {X:Cx}{pos:Pos}{es:List Expr}{t:TA}
def FK (t:TA):TE:=fun σ H Q=>t σ H fun xs H1=>xs.length<=sizeLine/\∀p H',gJ H1 p (.tup xs) H'->Q (.ref p) H'
def Fz (t:TA):TE:=fun σ H Q=>t σ H fun xs H1=>xs.length<=sizeLine/\∀p H',gJ H1 p (.lst xs) H'->Q (.ref p) H'
theorem fN {x1}(h:PA X es t):PE X (.Tuple es x1 pos) (FK t):=by
 have e:FK t=L8 t:=by
  funext σ H Q
  show t σ H _=t σ H _
  congr 1;funext xs H1
  exact congrArg (_ /\ ·) (qv (F:=fun p H'=>Q (.ref p) H')).symm
 rw[e];exact BH h
theorem eY (h:PA X es t):PE X (.List es pos) (Fz t):=by
 have e:Fz t=Ly t:=by
  funext σ H Q
  show t σ H _=t σ H _
  congr 1;funext xs H1
  exact congrArg (_ /\ ·) (qv (F:=fun p H'=>Q (.ref p) H')).symm
 rw[e];exact IK h
def vk (sx:List (TE×TE)):TE:=fun σ H Q=>∀p H0,gJ H p (.dK []) H0->nH sx σ H0 fun ps H2=>H2 p=some (.dK [])/\∃kvs:List (Key×V),ps=kvs.map (fun kv=>(kV kv.1,kv.2))/\kvs.length<=15/\∀H3,oZ H2 p (.dK (cK [] kvs)) H3->Q (.ref p) H3
theorem Li {keys:List (Option Expr)}{values:List Expr}{sx:List (TE×TE)}(h:KP X pos keys values sx)(gf:keys.all (·.isSome)=true)(hl:keys.length=values.length)(h0:keys≠[])
  (Qq:keys.length<=15):PE X (.Dict keys values pos) (vk sx):=by
 have e:vk sx=Bt sx:=by
  funext σ H Q
  unfold vk Bt
  rw[qv (F:=fun p H0=>nH sx σ H0 fun ps H2=>H2 p=some (.dK [])/\∃kvs:List (Key×V),ps=kvs.map (fun kv=>(kV kv.1,kv.2))/\kvs.length<=15/\Q (.ref p) (upd H2 p (.dK (cK [] kvs))))]
  simp only[<-Ds (F:=fun H3=>Q (.ref _) H3)]
 rw[e];exact EN h gf hl h0 Qq
end
section
variable {X:Cx}(K:Ja)
def Gr (K:Ja):V->Option Int->Option Int->Hp->VK->Prop:=fun x lo hi H Q=>(fE fun a xs=>x = .ref a/\aM K H a xs/\∀p H',gJ H p (.lst (jT xs lo hi)) H'->Q (.ref p) H')∨(∃z,x = .str z/\z.length<=sizeLine/\Q (.str (Txt.slice z lo hi)) H)
theorem ue (hK:X.K=K:=by rfl):C6 X (Gr K):=by
 subst hK
 intro pins s σ H x v vl vu lo hi sl Q I rx hs pl pu q
 refine LK s σ H x v vl vu lo hi sl Q I rx hs pl pu ?_
 rcases q with ⟨a,xs,e,h,q⟩|q
 ·exact .inl ⟨a,xs,e,h,fun p hp=>q p _ ⟨hp,rfl⟩⟩
 ·exact .inr q
theorem mi (hK:X.K=K:=by rfl):bN X (.type "list") (fun xs H Q=>∃p ys,xs=[.ref p]/\(aM K H p ys∨cE K H p ys)/\∀l H',gJ H l (.lst ys) H'->Q (.ref l) H'):=by
 subst hK
 intro pins s σ H xs us Q I r h
 refine aj.el (h) _ ?_
 rintro p ys e h q
 exact rO s σ H xs us Q I r ⟨p,ys,e,h,fun l hl=>q l _ ⟨hl,rfl⟩⟩
theorem gz (hK:X.K=K:=by rfl):bN X (.type "tuple") (fun xs H Q=>∃p ys,xs=[.ref p]/\((aM K H p ys/\∀l H',gJ H l (.tup ys) H'->Q (.ref l) H')∨(cE K H p ys/\Q (.ref p) H))):=by
 subst hK
 intro pins s σ H xs us Q I r h
 refine aj.el (h) _ ?_
 rintro p ys e h
 refine pB s σ H xs us Q I r ⟨p,ys,e,?_⟩
 rcases h with ⟨h,q⟩|h
 ·exact .inl ⟨h,fun l hl=>q l _ ⟨hl,rfl⟩⟩
 ·exact .inr h
end
section
variable {X:Cx}
def FG:R2:=fun x y H Q=>(fE fun i j=>x = .int i/\y = .int j/\Q (.int (i+j)) H)∨(∃i j,x = .str i/\y = .str j/\i.length+j.length<=sizeLine/\Q (.str (i++j)) H) ∨
 rX fun l b xs zs=>x = .ref l/\y = .ref b/\H l=some (.lst xs)/\H b=some (.lst zs)/\xs.length+zs.length<=sizeLine/\∀p H',gJ H p (.lst (xs++zs)) H'->Q (.ref p) H'
theorem cp:fL X (binaryOp .Add) FG:=by
 intro pins s σ H x y v u Q I rx ry h
 refine Kb s σ H x y v u Q I rx ry ?_
 rcases h with h|h|⟨l,b,xs,zs,e1,e2,h1,h2,h3,q⟩
 ·exact .inl h
 ·exact .inr (.inl h)
 ·exact .inr (.inr ⟨l,b,xs,zs,e1,e2,h1,h2,h3,fun p hp=>q p _ ⟨hp,rfl⟩⟩)
def FA:R2:=fun x y H Q=>(fE fun i j=>x = .int i/\y = .int j/\wD i j/\Q (.int (i*j)) H) ∨
 mI fun l k xs=>x = .ref l/\y = .int k/\H l=some (.lst xs) /\ -(2^63)<=k/\k<2^63/\xs.length*k.toNat<=sizeLine/\∀p H',gJ H p (.lst (Jv k.toNat xs).flatten) H'->Q (.ref p) H'
theorem wM:fL X (binaryOp .Mult) FA:=by
 intro pins s σ H x y v u Q I rx ry h
 refine LN s σ H x y v u Q I rx ry ?_
 rcases h with h|⟨l,k,xs,e1,e2,h1,h2,h3,h4,q⟩
 ·exact .inl h
 ·exact .inr ⟨l,k,xs,e1,e2,h1,h2,h3,h4,fun p hp=>q p _ ⟨hp,rfl⟩⟩
theorem Du:bN X (.builtin "divmod") (fun xs H Q=>∃i j,xs=[.int i,.int j]/\HQ i j/\∀p H',gJ H p (.tup [.int (i / j),.int (i%j)]) H'->Q (.ref p) H'):=by
 intro pins s σ H xs us Q I r h
 refine aj.el (h) _ ?_
 rintro i j e c q
 exact tZ s σ H xs us Q I r ⟨i,j,e,c,fun p hp=>q p _ ⟨hp,rfl⟩⟩
theorem Ew:DJ X "list.append" (fun x vs H Q=>∃l xs y,x = .ref l/\vs=[y]/\H l=some (.lst xs)/\xs.length<sizeLine/\∀H',oZ H l (.lst (xs++[y])) H'->Q .non H'):=by
 intro pins s σ H x xs v us Q I rx rv h
 refine aj.el (h) _ ?_
 rintro l ys y e1 e2 h1 h2 q
 exact zU s σ H x xs v us Q I rx rv ⟨l,ys,y,e1,e2,h1,h2,q _ ⟨rfl⟩⟩
theorem HM:DJ X "list.pop" (fun x vs H Q=>∃l xs i y,x = .ref l/\vs=[.int i]/\H l=some (.lst xs)/\0<=i/\i<2^63/\xs[i.toNat]? = some y/\∀H',oZ H l (.lst (xs.eraseIdx i.toNat)) H'->Q y H'):=by
 intro pins s σ H x xs v us Q I rx rv h
 refine aj.el (h) _ ?_
 rintro l ys i y e1 e2 h1 h2 h3 h4 q
 refine Cg s σ H x xs v us Q I rx rv ⟨l,ys,i,i.toNat,y,e1,e2,h1,by omega,h3,?_,h4,q _ ⟨rfl⟩⟩
 have hl:=(Jp.mp h4).1
 have q:Av ys ((i.toNat:Nat):Int)=some y:=qJ h4
 have ei:((i.toNat:Nat):Int)=i:=by omega +splitMinMax
 rw[ei] at q
 obtain⟨j,hj,hj2,_⟩:=mS q
 have:yM ys.length i=some i.toNat:=by unfold yM;rw[if_pos h2,if_pos (by omega)]
 exact(rQ this).1
end
theorem cV {α:Type}{xs:List α}{i:Int}{v: α}(h0:0<=i)(h:xs[i.toNat]? = some v):Av xs i=some v:=by
 have q:=qJ h
 have e:((i.toNat:Nat):Int)=i:=by omega
 rw[e] at q
 exact q
noncomputable def uT:PyData->String
 | .none => "NoneType"
 | .bool _ => "bool"
 | .int _ => "int"
 | .str _ => "str"
 | .list _ => "list"
 | .tuple _ => "tuple"
 | .dict _ => "dict"
noncomputable def Mv (d:PyData)(T:String):Bool:=uT d==T||(uT d == "bool" && T == "int")
theorem iw (K:Ja)(d:PyData):Uh K (.type (uT d)) (.type "bool")=some (Mv d "bool")/\Uh K (.type (uT d)) (.type "int")=some (Mv d "int")/\Uh K (.type (uT d)) (.type "str")=some (Mv d "str") /\
  Uh K (.type (uT d)) (.type "list")=some (Mv d "list")/\Uh K (.type (uT d)) (.type "tuple")=some (Mv d "tuple"):=by
 cases d<;>exact⟨rfl,rfl,rfl,rfl,rfl⟩
section
variable {X:Cx}
theorem xC {pins:List (Addr×Obj)}{σ:St}{H:Hp}{s:Shared}{x:V}{u:Value}{d:PyData}(I:Inv X pins σ H s)(rx:RelV x u)(h:Den X.K H d x):∃HH:Heap->Prop,PySem.W.KitX X.K u (.type (uT d)) HH/\HH s.heap/\u ≠ .builtin "__main__.__loader__#opaque":=by
 cases d with
 | none=>unfold Den at h;subst h;cases rx;exact⟨_,PySem.W.kitx_none,True.intro,fun z=>nomatch z⟩
 | bool b=>unfold Den at h;subst h;cases rx;exact⟨_,PySem.W.kitx_bool,True.intro,fun z=>nomatch z⟩
 | int i=>unfold Den at h;subst h;obtain⟨t,rfl⟩:=rx;exact⟨_,PySem.W.kitx_int,True.intro,fun z=>nomatch z⟩
 | str y=>unfold Den at h;subst h;obtain⟨t,rfl⟩:=rx;exact⟨_,PySem.W.kitx_str,True.intro,fun z=>nomatch z⟩
 | list ds=>
  unfold Den at h
  refine aj.el (h) _ ?_
  rintro a vs rfl h2 _
  cases rx
  obtain⟨aA,_,⟨o,n,e1,e2,_⟩,_⟩:=I.list h2
  exact⟨_,PySem.W.kitx_list,⟨o,e1,e2⟩,fun z=>nomatch z⟩
 | tuple ds=>
  unfold Den at h
  refine aj.el (h) _ ?_
  rintro a vs rfl h2 _
  cases rx
  obtain⟨aA,_,⟨o,e1,e2,_⟩,_⟩:=I.tuple h2
  exact⟨_,PySem.W.kitx_tuple,⟨o,e1,e2⟩,fun z=>nomatch z⟩
 | dict _=>unfold Den at h;exact h.elim
theorem yB:bN X (.builtin "isinstance") (fun xs H Q=>∃(x:V) (T:String) (d:PyData) (b:Bool),xs=[x,.ty T]/\Den X.K H d x/\Uh X.K (.type (uT d)) (.type T)=some b/\Q (.bl b) H):=by
 intro pins s σ H xs us Q I r h
 refine aj.el (h) _ ?_
 rintro x T d b rfl hd e q
 refine aj.el (vals2 r) _ ?_
 rintro u w' rfl r1 r2
 cases r2
 refine aj.el (xC I r1 hd) _ ?_
 rintro HH Z hh hx
 exact Yd Z I.iA hh e hx fun tk=>⟨.bl b,H,I.tok _,rfl,q⟩
theorem wc:bN X (.builtin "isinstance") (fun xs H Q=>∃(x:V) (p:Addr) (Ts:List String) (d:PyData) (b:Bool),xs=[x,.ref p]/\H p=some (.tup (Ts.map V.ty))/\Den X.K H d x/\PySem.W.kitAny X.K (.type (uT d)) (Ts.map Value.type)=some b/\Q (.bl b) H):=by
 intro pins s σ H xs us Q I r h
 refine aj.el (h) _ ?_
 rintro x p Ts d b rfl hp hd e q
 refine aj.el (vals2 r) _ ?_
 rintro u w' rfl r1 r2
 cases r2
 refine aj.el (xC I r1 hd) _ ?_
 rintro HH Z hh hx
 obtain⟨hz,aA,rv,o,h1,oE,h2,n,h3⟩:=(show bt X.prog X.w H s.heap p (.tup (Ts.map V.ty)) from I.bB p _ hp)
 have ei:aA=Ts.map Value.type:=by
  clear e hp h3 h2 h1 oE hz
  induction Ts generalizing aA with
  | nil=>cases rv;rfl
  | cons T Ts ih=>
   cases rv with
   | cons q1 q2=>cases q1;rw[ih _ q2];rfl
 subst ei
 obtain⟨cls,dd,data,sl⟩:=o
 simp only at h2 h3
 subst h2 h3
 exact PySem.W.kia_tup Z I.iA hh h1 e hx fun tk=>⟨.bl b,H,I.tok _,rfl,q⟩
def Qu (K:Ja):List V->Hp->VK->Prop:=fun xs H Q=>(∃(x:V) (T:String) (d:PyData) (b:Bool),xs=[x,.ty T]/\Den K H d x/\Uh K (.type (uT d)) (.type T)=some b/\Q (.bl b) H) ∨
 ∃x T t b,xs=[x,.ty T]/\kH K H x t/\Uh K t (.type T)=some b/\Q (.bl b) H
theorem eV (K:Ja)(hK:X.K=K:=by rfl):bN X (.builtin "isinstance") (Qu K):=by subst hK;exact yB.or BV
def MJ (K:Ja):List V->Hp->VK->Prop:=fun xs H Q=>∃(x:V) (p:Addr) (Ts:List String) (d:PyData) (b:Bool),xs=[x,.ref p]/\H p=some (.tup (Ts.map V.ty))/\Den K H d x/\PySem.W.kitAny K (.type (uT d)) (Ts.map Value.type)=some b/\Q (.bl b) H
theorem Ck (K:Ja)(hK:X.K=K:=by rfl):bN X (.builtin "isinstance") (MJ K):=by subst hK;exact wc
end
noncomputable def QE (k:Bool):String:=if k then "tuple" else "list"
noncomputable def A1 (k:Bool):String:=if k then "tuple_iterator" else "list_iterator"
def bS (k:Bool)(h:Heap)(a:Addr)(aA:Array Value):Prop:=∃o,h.get? a=some o/\o.cls = .type (QE k)/\∃n,o.data = .seq aA n
def cU (k:Bool)(h:Heap)(it a:Addr)(i:Nat):Prop:=∃o,h.get? it=some o/\o.cls = .type (A1 k)/\o.data = .fields #[.ref a,.int i 0]
theorem bS.at {k:Bool}{h h':Heap}{a:Addr}{aA:Array Value}(x:bS k h a aA)(e:∀o,h.get? a=some o->h'.get? a=some o):bS k h' a aA:=let ⟨o,ho,r⟩:=x; ⟨o,e _ ho,r⟩
theorem cU.at {k:Bool}{h h':Heap}{it a:Addr}{i:Nat}(x:cU k h it a i)(e:∀o,h.get? it=some o->h'.get? it=some o):cU k h' it a i:=let ⟨o,ho,r⟩:=x; ⟨o,e _ ho,r⟩
theorem bS.lt {k:Bool}{h:Heap}{a:Addr}{aA:Array Value}(x:bS k h a aA):a<h.objs.size:=let ⟨_,e,_⟩:=x;Jf e
theorem cU.lt {k:Bool}{h:Heap}{it a:Addr}{i:Nat}(x:cU k h it a i):it<h.objs.size:=let ⟨_,e,_⟩:=x;Jf e
section
variable {prog:Program}{w:World}{A:Around}{E:Value->Shared->Prop}{s:Shared}{k:Bool}{it a:Addr}{i:Nat}{aA:Array Value}
theorem gU {x:Value}{Q:Value->Shared->Prop}(h1:cU k s.heap it a i)(h2:bS k s.heap a aA)(hx:aA[i]? = some x)
  (q:∀h',cU k h' it a (i+1)->U0 it s.heap h'->Q x { s with heap:=h' }):wpAny (model prog w) A (Builtin.SmallTypes.nextOf (.ref it)) Q E s:=by
 cases k with
 | false=>exact wpAny_nextOf_list_item h1 h2 hx q
 | true=>
  obtain⟨o,ho,hc,hd⟩:=h1
  obtain⟨ol,hol,_,nl,hdl⟩:=h2
  have hT:s.TypeIs (.ref it) "tuple_iterator":=⟨o,ho,hc⟩
  unfold Builtin.SmallTypes.nextOf
  refine wpAny_bind (wpAny_callSpecial?_slot (name:=Str.ofString "__next__") hT F.slot_tuple_iterator_next (wpAny_call_entry F.slot_tuple_iterator_next hT F.entry_tuple_iterator_next ?_ (F.args_tuple_iterator_next_1 _)))
  change wpAny _ _ (Bind.bind (field (.ref it) 0) _) _ _ s
  refine wpAny_bind (wpAny_field ho hd (x := .ref a) rfl ?_)
  rw[if_neg (by intro z;cases z)]
  refine wpAny_bind (wpAny_field ho hd (x := .int i 0) rfl (wpAny_bind (wpAny_seqItems hol hdl ?_)))
  simp only[Y1,hx]
  refine wpAny_bind (wpAny_setField ho hd (by simp) (wpAny_pure ⟨x,rfl,wpAny_pure (q _ ⟨_,Jz _ ho (Obj.isFreed_of_fields (Obj.data_mapFields hd _)),(Obj.cls_mapFields ..).trans hc,?_⟩ (U0.update ..))⟩))
  rw[Obj.data_mapFields hd]
  simp[rawInt]
theorem nq {Q:Value->Shared->Prop}(hh:A.handled=none)(h1:cU k s.heap it a i)(h2:bS k s.heap a aA)(hx:aA[i]? = none)
  (q:∀h' e,Heap.ExtBut it s.heap h'->(∃o,h'.get? e=some o/\o.cls = .type "StopIteration")->E (.ref e) { s with heap:=h' }):wpAny (model prog w) A (Builtin.SmallTypes.nextOf (.ref it)) Q E s:=by
 cases k with
 | false=>exact wpAny_nextOf_list_end hh h1 h2 hx q
 | true=>
  obtain⟨o,ho,hc,hd⟩:=h1
  obtain⟨ol,hol,_,nl,hdl⟩:=h2
  have hT:s.TypeIs (.ref it) "tuple_iterator":=⟨o,ho,hc⟩
  unfold Builtin.SmallTypes.nextOf
  refine wpAny_bind (wpAny_callSpecial?_slot (name:=Str.ofString "__next__") hT F.slot_tuple_iterator_next (wpAny_call_entry F.slot_tuple_iterator_next hT F.entry_tuple_iterator_next ?_ (F.args_tuple_iterator_next_1 _)))
  change wpAny _ _ (Bind.bind (field (.ref it) 0) _) _ _ s
  refine wpAny_bind (wpAny_field ho hd (x := .ref a) rfl ?_)
  rw[if_neg (by intro z;cases z)]
  refine wpAny_bind (wpAny_field ho hd (x := .int i 0) rfl (wpAny_bind (wpAny_seqItems hol hdl ?_)))
  simp only[Y1,hx]
  refine wpAny_bind (wpAny_rule (wpAny_bind (wpAny_setField ho hd (by simp) (wpAny_bind ?_))))
  simp only[newExc,newTuple]
  refine wpAny_bind (wpAny_newObj_type ?_ (by size_fits))
  refine wpAny_bind (m:=firstArgMember _ _) (wpAny_of_eq (a:=Value.none) (by first|rfl|(simp only[firstArgMember];rfl)) (wpAny_newObj_type ?_ (by size_fits)))
  simp only[raiseNew]
  refine wpAny_bind (wpAny_handled ?_)
  rw[show A.in1.handled=none from hh]
  exact wpAny_bind (wpAny_pure (wpAny_throw (q _ _ (((U0.update ..).extBut.push _).push _) ⟨_,Ji _ rfl,rfl⟩)))
end
structure sJ (k1 k2:Bool)(z TI TO i1 i2 l1 l2:Addr)(i:Nat)(h:Heap):Prop where
 zp:IsZip h z TI TO .none
 ti:IsPair h TI (.ref i1) (.ref i2)
 to:∃a b,IsPair h TO a b
 it1:cU k1 h i1 l1 i
 it2:cU k2 h i2 l2 i
section
variable {prog:Program}{w:World}{A:Around}{E:Value->Shared->Prop}{s:Shared}{k1 k2:Bool}{z TI TO i1 i2 l1 l2:Addr}{i:Nat}{xs ys:Array Value}
abbrev GL (z TO i1 i2:Addr)(b:Addr):Prop:=b=z∨b=TO∨b=i1∨b=i2
theorem yD {x y:Value}{Q:Option Value->Shared->Prop}(D:ZipApart z TI TO i1 i2 l1 l2)(st:sJ k1 k2 z TI TO i1 i2 l1 l2 i s.heap)(mf:bS k1 s.heap l1 xs)(uX:bS k2 s.heap l2 ys)(hx:xs[i]? = some x)(hy:ys[i]? = some y)
  (q:∀h',IsZip h' z TI TO (rawInt s.heap.objs.size)->IsPair h' TO x y->cU k1 h' i1 l1 (i+1)->cU k2 h' i2 l2 (i+1)->IsPair h' s.heap.objs.size x y->Keeps s.heap h' (GL z TO i1 i2)->Q (some (.ref s.heap.objs.size)) { s with heap:=h' }) :
  wpAny (model prog w) A (pyNext (.ref z)) Q E s:=by
 obtain⟨hz,kj,⟨a,b,rf⟩,h1,h2⟩:=st
 have hT:s.TypeIs (.ref z) "zip":=⟨_,hz,rfl⟩
 unfold pyNext
 refine wpAny_bind (wpAny_attempt (wpAny_callSpecial?_slot (name:=Str.ofString "__next__") hT F.slot_zip_next (wpAny_call_entry F.slot_zip_next hT F.entry_zip_next ?_ (F.args_zip_next_1 _))))
 change wpAny _ _ (Bind.bind (field (.ref z) 2) _) _ _ _
 refine wpAny_bind (wpAny_field hz rfl (x := .bool false) rfl ?_)
 change wpAny _ _ (Bind.bind (field (.ref z) 3) _) _ _ _
 refine wpAny_bind (wpAny_field hz rfl (x := .ref TI) rfl (wpAny_bind (wpAny_seqItems kj rfl ?_)))
 change wpAny _ _ (Bind.bind (Builtin.SmallTypes.ownedTupleIsFree (.ref z)) _) _ _ _
 refine wpAny_bind ?_
 unfold Builtin.SmallTypes.ownedTupleIsFree
 refine wpAny_bind (wpAny_field hz rfl (x := .none) rfl (wpAny_pure ?_))
 simp only[if_true]
 refine wpAny_bind (wpAny_rule (wpAny_bind (wpAny_field hz rfl (x := .ref TO) rfl (wpAny_bind (wpAny_setField_rec hz (by simp) fun g1 z1 e1=>wpAny_bind ?_)))))
 simp only[List.zipIdx_cons,List.zipIdx_nil,Yh,Yx]
 refine wpAny_bind (wpAny_bind (wpAny_onRaise ?_))
 change wpAny _ _ (Bind.bind (Builtin.SmallTypes.nextOf (.ref i1)) _) _ _ _
 refine wpAny_bind (gU (h1.at fun o e=>e1.extBut _ _ D.i1z e) (mf.at fun o e=>e1.extBut _ _ D.l1z e) hx fun g2 it1 e2=>wpAny_pure ?_)
 have to2:IsPair g2 TO a b:=e2.extBut _ _ D.TOi1 (e1.extBut _ _ D.TOz rf)
 refine wpAny_bind (wpAny_seqItems to2 rfl (wpAny_bind (wpAny_updateSeq_pair to2 fun g3 to3 e3=>wpAny_bind (wpAny_letGo (wpAny_pure ?_)))))
 have to3:IsPair g3 TO x b:=to3
 have zg:Keeps s.heap g3 (fun c=>c=z∨c=i1∨c=TO):=fun c o nc e=>e3.extBut _ _ (fun q=>nc (.inr (.inr q))) (e2.extBut _ _ (fun q=>nc (.inr (.inl q))) (e1.extBut _ _ (fun q=>nc (.inl q)) e))
 refine wpAny_bind (wpAny_bind (wpAny_onRaise ?_))
 change wpAny _ _ (Bind.bind (Builtin.SmallTypes.nextOf (.ref i2)) _) _ _ _
 refine wpAny_bind (gU (h2.at fun o e=>zg _ _ (fun q=>q.elim D.i2z fun q=>q.elim D.i12.symm D.TOi2.symm) e) (uX.at fun o e=>zg _ _ (fun q=>q.elim D.l2z fun q=>q.elim D.l2i1 D.l2TO) e) hy fun g4 it2 e4=>wpAny_pure ?_)
 have FX:IsPair g4 TO x b:=e4.extBut _ _ D.TOi2 to3
 refine wpAny_bind (wpAny_seqItems FX rfl (wpAny_bind (wpAny_updateSeq_pair FX fun g5 y6 e5=>wpAny_bind (wpAny_letGo (wpAny_pure (wpAny_pure ?_))))))
 have y6:IsPair g5 TO x y:=y6
 refine wpAny_bind (wpAny_seqItems y6 rfl (wpAny_bind (wpAny_newTuple ?_)))
 have hsz:g5.objs.size=s.heap.objs.size:=by rw[e5.1,e4.1,e3.1,e2.1,e1.1]
 have z5:IsZip g5 z TI TO .ellipsis:=e5.extBut _ _ D.TOz.symm (e4.extBut _ _ D.i2z.symm (e3.extBut _ _ D.TOz.symm (e2.extBut _ _ D.i1z.symm z1)))
 have k5:Keeps s.heap g5 (GL z TO i1 i2):=fun c o nc e=>e5.extBut _ _ (fun q=>nc (.inr (.inl q))) (e4.extBut _ _ (fun q=>nc (.inr (.inr (.inr q)))) (zg c o (fun q=>q.elim (fun q=>nc (.inl q)) fun q=>q.elim (fun q=>nc (.inr (.inr (.inl q)))) fun q=>nc (.inr (.inl q))) e))
 have BM:cU k1 g5 i1 l1 (i+1):=it1.at fun o e=>e5.extBut _ _ D.TOi1.symm (e4.extBut _ _ D.i12 (e3.extBut _ _ D.TOi1.symm e))
 have CN:cU k2 g5 i2 l2 (i+1):=it2.at fun o e=>e5.extBut _ _ D.TOi2.symm e
 have FF:z<g5.objs.size:=Jf z5
 change wpAny _ _ (Bind.bind (Builtin.SmallTypes.ownedTupleHandOut (.ref z) (.ref g5.objs.size)) _) _ _ _
 refine wpAny_bind ?_
 unfold Builtin.SmallTypes.ownedTupleHandOut
 have z6:IsZip (g5.push { cls := .type "tuple",data := .seq #[x,y] }) z TI TO .ellipsis:=Jb _ z5
 refine wpAny_bind (wpAny_setField_rec z6 (by simp) fun g7 z7 e7 =>?_)
 have z7:IsZip g7 z TI TO (rawInt g5.objs.size):=z7
 refine wpAny_setField_rec z7 (by simp) fun g8 z8 e8=>wpAny_pure ⟨_,rfl,wpAny_pure ?_⟩
 have up:∀c o,c≠z->g5.get? c=some o->g8.get? c=some o:=fun c o c1 e=>e8.extBut _ _ c1 (e7.extBut _ _ c1 (Jb _ e))
 have tp:IsPair g8 g5.objs.size x y:=e8.extBut _ _ (Uk FF) (e7.extBut _ _ (Uk FF) (Ji _ rfl))
 have z8:IsZip g8 z TI TO (rawInt g5.objs.size):=z8
 show Q (some (.ref g5.objs.size)) _
 rw[hsz] at z8 tp ⊢
 exact q g8 z8 (up _ _ D.TOz y6) (BM.at fun o e=>up _ o D.i1z e) (CN.at fun o e=>up _ o D.i2z e) tp fun c o nc e=>up c o (fun q=>nc (.inl q)) (k5 c o nc e)
theorem zV {Q:Option Value->Shared->Prop}(hh:A.handled=none)(D:ZipApart z TI TO i1 i2 l1 l2)(st:sJ k1 k2 z TI TO i1 i2 l1 l2 i s.heap)(mf:bS k1 s.heap l1 xs)(uX:bS k2 s.heap l2 ys)(Q0:xs[i]? = none∨ys[i]? = none)
  (q:∀h',Keeps s.heap h' (GL z TO i1 i2)->Q none { s with heap:=h' }):wpAny (model prog w) A (pyNext (.ref z)) Q E s:=by
 obtain⟨hz,kj,⟨a,b,rf⟩,h1,h2⟩:=st
 have hT:s.TypeIs (.ref z) "zip":=⟨_,hz,rfl⟩
 unfold pyNext
 refine wpAny_bind (wpAny_attempt (wpAny_callSpecial?_slot (name:=Str.ofString "__next__") hT F.slot_zip_next (wpAny_call_entry F.slot_zip_next hT F.entry_zip_next ?_ (F.args_zip_next_1 _))))
 change wpAny _ _ (Bind.bind (field (.ref z) 2) _) _ _ _
 refine wpAny_bind (wpAny_field hz rfl (x := .bool false) rfl ?_)
 change wpAny _ _ (Bind.bind (field (.ref z) 3) _) _ _ _
 refine wpAny_bind (wpAny_field hz rfl (x := .ref TI) rfl (wpAny_bind (wpAny_seqItems kj rfl ?_)))
 change wpAny _ _ (Bind.bind (Builtin.SmallTypes.ownedTupleIsFree (.ref z)) _) _ _ _
 refine wpAny_bind ?_
 unfold Builtin.SmallTypes.ownedTupleIsFree
 refine wpAny_bind (wpAny_field hz rfl (x := .none) rfl (wpAny_pure ?_))
 simp only[if_true]
 refine wpAny_bind (wpAny_rule (wpAny_bind (wpAny_field hz rfl (x := .ref TO) rfl (wpAny_bind (wpAny_setField_rec hz (by simp) fun g1 z1 e1=>wpAny_bind ?_)))))
 have z1:IsZip g1 z TI TO .ellipsis:=z1
 simp only[List.zipIdx_cons,List.zipIdx_nil,Yh,Yx]
 refine wpAny_bind (wpAny_bind (wpAny_onRaise ?_))
 change wpAny _ _ (Bind.bind (Builtin.SmallTypes.nextOf (.ref i1)) _) _ _ _
 cases hx:xs[i]? with
 | none=>
  refine wpAny_bind (nq hh (h1.at fun o e=>e1.extBut _ _ D.i1z e) (mf.at fun o e=>e1.extBut _ _ D.l1z e) hx fun g2 e e2 oe =>?_)
  refine aj.el (oe) _ ?_
  rintro o ho hc
  have z2:IsZip g2 z TI TO .ellipsis:=e2 _ _ D.i1z.symm z1
  have ez:e≠z:=fun q=>by subst q;rw[z2] at ho;cases ho;simp at hc
  refine wpAny_setField_rec z2 (by simp) fun g3 _ e3 =>?_
  refine wpAny_bind (wpAny_isInstance (T := "StopIteration") (b:=true) ⟨o,e3.extBut _ _ ez ho,hc⟩ isSubtype_stop (wpAny_pure (q g3 fun c o nc h =>?_)))
  exact e3.extBut _ _ (fun q=>nc (.inl q)) (e2 _ _ (fun q=>nc (.inr (.inr (.inl q)))) (e1.extBut _ _ (fun q=>nc (.inl q)) h))
 | some x=>
  have hy:ys[i]? = none:=Q0.resolve_left (by rw[hx];exact fun z=>nomatch z)
  refine wpAny_bind (gU (h1.at fun o e=>e1.extBut _ _ D.i1z e) (mf.at fun o e=>e1.extBut _ _ D.l1z e) hx fun g2 it1 e2=>wpAny_pure ?_)
  have to2:IsPair g2 TO a b:=e2.extBut _ _ D.TOi1 (e1.extBut _ _ D.TOz rf)
  refine wpAny_bind (wpAny_seqItems to2 rfl (wpAny_bind (wpAny_updateSeq_pair to2 fun g3 to3 e3=>wpAny_bind (wpAny_letGo (wpAny_pure ?_)))))
  have zg:Keeps s.heap g3 (fun c=>c=z∨c=i1∨c=TO):=fun c o nc e=>e3.extBut _ _ (fun q=>nc (.inr (.inr q))) (e2.extBut _ _ (fun q=>nc (.inr (.inl q))) (e1.extBut _ _ (fun q=>nc (.inl q)) e))
  refine wpAny_bind (wpAny_bind (wpAny_onRaise ?_))
  change wpAny _ _ (Bind.bind (Builtin.SmallTypes.nextOf (.ref i2)) _) _ _ _
  refine wpAny_bind (nq hh (h2.at fun o e=>zg _ _ (fun q=>q.elim D.i2z fun q=>q.elim D.i12.symm D.TOi2.symm) e) (uX.at fun o e=>zg _ _ (fun q=>q.elim D.l2z fun q=>q.elim D.l2i1 D.l2TO) e) hy fun g4 e e4 oe =>?_)
  refine aj.el (oe) _ ?_
  rintro o ho hc
  have z4:IsZip g4 z TI TO .ellipsis:=e4 _ _ D.i2z.symm (e3.extBut _ _ D.TOz.symm (e2.extBut _ _ D.i1z.symm z1))
  have ez:e≠z:=fun q=>by subst q;rw[z4] at ho;cases ho;simp at hc
  refine wpAny_setField_rec z4 (by simp) fun g5 _ e5 =>?_
  refine wpAny_bind (wpAny_isInstance (T := "StopIteration") (b:=true) ⟨o,e5.extBut _ _ ez ho,hc⟩ isSubtype_stop (wpAny_pure (q g5 fun c o nc h =>?_)))
  exact e5.extBut _ _ (fun q=>nc (.inl q)) (e4 _ _ (fun q=>nc (.inr (.inr (.inr q)))) (zg c o (fun q=>q.elim (fun q=>nc (.inl q)) fun q=>q.elim (fun q=>nc (.inr (.inr (.inl q)))) fun q=>nc (.inr (.inl q))) h))
theorem iZ {k:Bool}{a:Addr}{aA:Array Value}{Q:Value->Shared->Prop}(h:bS k s.heap a aA)(q:Q (.ref s.heap.objs.size) { s with heap:=s.heap.push { cls := .type (A1 k),data := .fields #[.ref a,.int 0 0] } }):wpAny (model prog w) A (pyIter (.ref a)) Q E s:=by
 cases k with
 | false=>exact wpAny_pyIter_list h q
 | true=>exact wpAny_pyIter_tuple h q
end
noncomputable abbrev j5 (k:Bool)(a:Addr):Obj:={ cls := .type (A1 k),data := .fields #[.ref a,.int 0 0] }
noncomputable abbrev Ni (k1 k2:Bool)(h:Heap)(a b:Addr):Heap:=((((h.push (j5 k1 a)).push (j5 k2 b)).push { cls := .type "tuple",data := .seq #[.ref h.objs.size,.ref (h.objs.size+1)] }).push { cls := .type "tuple",data := .seq #[.none,.none] }).push
 { cls := .type "zip",data := .fields #[.none,.bool false,.bool false,.ref (h.objs.size+2),.ref (h.objs.size+3)] }
theorem CQ (k1 k2:Bool)(a b:Addr)(xs ys:Array Value):
  Meets (Builtin.«zip.__new__» ⟨[.type "zip",.ref a,.ref b],[]⟩) (fun _ R s=>bS k1 s.heap a xs/\bS k2 s.heap b ys/\R (.ok (.ret (.ref (s.heap.objs.size+4)))) { s with heap:=Ni k1 k2 s.heap a b }):=
 .of_wp fun prog w A R s h=>by
  obtain⟨hp,g,d,tk,os⟩:=s;obtain⟨mf,uX,h⟩:=h
  have eE:=sub_zip
  have NY:bS k1 (Shared.heap ⟨hp,g,d,tk,os⟩) a xs:=mf
  have MC:bS k2 (Shared.heap ⟨hp.push (j5 k1 a),g,d,tk,os⟩) b ys:=uX.at fun o e=>Jb _ e
  have s1:(hp.push (j5 k1 a)).objs.size=hp.objs.size+1:=J2 ..
  wp_walk using iZ NY,iZ MC
  refine⟨_,rfl,?_⟩
  simp only[J2] at h ⊢
  exact h
section
variable {prog:Program}{w:World}{A:Around}{E:Value->Shared->Prop}{s:Shared}
theorem zE {k1 k2:Bool}{a b:Addr}{xs ys:Array Value}{Q:Value->Shared->Prop}(h1:bS k1 s.heap a xs)(h2:bS k2 s.heap b ys)
  (q:∀h',sJ k1 k2 (s.heap.objs.size+4) (s.heap.objs.size+2) (s.heap.objs.size+3) s.heap.objs.size (s.heap.objs.size+1) a b 0 h'->(∀c o,s.heap.get? c=some o->h'.get? c=some o)->Q (.ref (s.heap.objs.size+4)) { s with heap:=h' }) :
  wpAny (model prog w) A (call (.type "zip") [.ref a,.ref b]) Q E s:=by
 refine callType_new F.called_zip (by decide) (F.typeCall_zip_2 _ _) (F.newCall_zip_2 _ _) (fun obj=>F.args_object_init_3 obj _ _) F.entry_zip_new (CQ k1 k2 a b xs ys) ⟨h1,h2,?_⟩
 have up:∀{h:Heap} {c:Addr} {o:Obj} (p:Obj),h.get? c=some o->(h.push p).get? c=some o:=fun p e=>Jb p e
 have last:∀{h:Heap} {n:Nat} {p:Obj},h.objs.size=n->p.isFreed=false->(h.push p).get? n=some p:=fun e hf=>by rw[<-e];exact Ji _ hf
 have z1:(s.heap.push (j5 k1 a)).objs.size=s.heap.objs.size+1:=J2 ..
 have z2:((s.heap.push (j5 k1 a)).push (j5 k2 b)).objs.size=s.heap.objs.size+2:=by rw[J2,z1]
 have z3:(((s.heap.push (j5 k1 a)).push (j5 k2 b)).push { cls := .type "tuple",data := .seq #[.ref s.heap.objs.size,.ref (s.heap.objs.size+1)] }).objs.size=s.heap.objs.size+3:=by rw[J2,z2]
 have z4:((((s.heap.push (j5 k1 a)).push (j5 k2 b)).push { cls := .type "tuple",data := .seq #[.ref s.heap.objs.size,.ref (s.heap.objs.size+1)] }).push { cls := .type "tuple",data := .seq #[.none,.none] }).objs.size=s.heap.objs.size+4:=by rw[J2,z3]
 have st:sJ k1 k2 (s.heap.objs.size+4) (s.heap.objs.size+2) (s.heap.objs.size+3) s.heap.objs.size (s.heap.objs.size+1) a b 0 (Ni k1 k2 s.heap a b):=
  ⟨last z4 rfl,up _ (up _ (last z2 rfl)),⟨.none,.none,up _ (last z3 rfl)⟩,⟨_,up _ (up _ (up _ (up _ (last rfl rfl)))),rfl,rfl⟩,⟨_,up _ (up _ (up _ (last z1 rfl))),rfl,rfl⟩⟩
 have kp:∀c o,s.heap.get? c=some o->(Ni k1 k2 s.heap a b).get? c=some o:=fun c o e=>up _ (up _ (up _ (up _ (up _ e))))
 have ob:(Ni k1 k2 s.heap a b).get? (s.heap.objs.size+4)=some _:=st.zp
 exact⟨⟨_,ob,rfl⟩,q _ st kp⟩
end
def kU (k:Bool)(K:Ja)(H:Hp)(a:Addr)(xs:List V):Prop:=if k=true then cE K H a xs else aM K H a xs
theorem Inv.lT {X:Cx}{pins:List (Addr×Obj)}{σ:St}{H:Hp}{s:Shared}{k:Bool}{a:Addr}{xs:List V}(I:Inv X pins σ H s)(h:kU k X.K H a xs):∃aA:List Value,Vals xs aA/\bS k s.heap a aA.toArray/\xs.length<=sizeLine:=by
 cases k with
 | false=>
  obtain⟨aA,r,⟨o,n,e1,e2,_,e4⟩,z⟩:=I.list h
  exact⟨aA,r,⟨o,e1,e2,n,e4⟩,z⟩
 | true=>
  obtain⟨aA,r,⟨o,e1,e2,n,e4⟩,z⟩:=I.tuple h
  exact⟨aA,r,⟨o,e1,e2,n,e4⟩,z⟩
theorem Inv.tY {X:Cx}{pins:List (Addr×Obj)}{σ:St}{H:Hp}{s:Shared}{k:Bool}{a:Addr}{xs ys:List V}(I:Inv X pins σ H s)(h:kU k X.K H a xs)(h':kU k X.K H a ys):xs=ys:=by
 cases k with
 | false=>exact I.gK h h'
 | true=>exact I.qa h h'
noncomputable def JZ (K:Ja)(k1 k2:Bool)(a b:Addr):It:=
 ⟨fun i H=>rX fun xs ys x y=>kU k1 K H a xs/\kU k2 K H b ys/\xs[i]? = some x/\ys[i]? = some y,
   fun i H v H'=>∃T,v = .ref T/\∀xs ys x y,kU k1 K H a xs->kU k2 K H b ys->xs[i]? = some x->ys[i]? = some y->gJ H T (.tup [x,y]) H',
   fun i H=>fE fun xs ys=>kU k1 K H a xs/\kU k2 K H b ys/\(xs.length<=i∨ys.length<=i)⟩
theorem zP {P:Program}{w:World}{K:Ja}{elts:List Expr}{k:Nat}{tp:Pos}(k1 k2:Bool)(z TI TO i1 i2 l1 l2:Addr)(D:ZipApart z TI TO i1 i2 l1 l2):
  Turn P w K (.Tuple elts k tp) (JZ K k1 k2 l1 l2) [z,TI,TO,i1,i2] z (sJ k1 k2 z TI TO i1 i2 l1 l2) where
 mem:=by simp
 obj:=fun i h st b hb=>by
  obtain⟨h1,h2,⟨_,_,h3⟩,⟨o4,h4,_,d4⟩,⟨o5,h5,_,d5⟩⟩:=st
  simp at hb
  rcases hb with rfl|rfl|rfl|rfl|rfl
  ·exact⟨_,h1,fun _ z=>nomatch z⟩
  ·exact⟨_,h2,fun _ z=>nomatch z⟩
  ·exact⟨_,h3,fun _ z=>nomatch z⟩
  ·exact⟨_,h4,fun v q=>by rw[d4] at q;cases q⟩
  ·exact⟨_,h5,fun v q=>by rw[d5] at q;cases q⟩
 keep:=fun i h h' st hk=>by
  obtain⟨h1,h2,⟨a,b,h3⟩,h4,h5⟩:=st
  exact⟨hk z (by simp) _ h1,hk TI (by simp) _ h2,⟨a,b,hk TO (by simp) _ h3⟩,h4.at fun o e=>hk i1 (by simp) o e,h5.at fun o e=>hk i2 (by simp) o e⟩
 item:=fun X hP hw hK hc i pins s σ H E I hf st go=>by
  subst hP hw hK
  obtain⟨xs,ys,x,y,q1,q2,e1,e2⟩:=go
  refine aj.el (I.lT q1) _ ?_
  rintro its1 r1 p1 _
  refine aj.el (I.lT q2) _ ?_
  rintro its2 r2 p2 _
  refine aj.el (gV r1 e1) _ ?_
  rintro u1 g1 ru1
  refine aj.el (gV r2 e2) _ ?_
  rintro u2 g2 ru2
  have hz:=st.zp
  have kj:=st.ti
  refine yD D st p1 p2 g1 g2 fun h' a1 a2 a3 a4 a5 a7=>⟨_,rfl,?_⟩
  refine wpAny_letOwnedTupleGo_zip a1 fun h'' b1 b2 =>?_
  have Mq:s.heap.objs.size≠z:=iH (Jf hz) (Jd _)
  have Rc:∀c∈[z,TO,i1,i2],eu X pins H c:=fun c hc=>hf c (by simp at hc ⊢;rcases hc with q|q|q|q<;>simp[q])
  have kp:∀c o,c∉[z,TO,i1,i2]->s.heap.get? c=some o->h''.get? c=some o:=fun c o hc e=>by
   simp only[Jm,J7,or_false] at hc
   exact b2.extBut c o (fun q=>hc (.inl q)) (a7 c o hc e)
  have I1:Inv X pins σ H { s with heap:=h'',toks:=s.toks }:=I.iter Rc kp
  have fT:eu X pins H s.heap.objs.size:=I.eC (Jd _) (I.bB.fresh (Jd _))
  have oT:h''.get? s.heap.objs.size=some { cls := .type "tuple",data := .seq #[u1,u2] }:=b2.extBut _ _ Mq a5
  have I2:=I1.adopt (T:=s.heap.objs.size) (o := .tup [x,y]) fT I.sz ⟨by show 2<=sizeLine;decide,[u1,u2],.cons ru1 (.cons ru2 .nil),⟨_,oT,rfl,rfl,_,rfl⟩⟩
  refine⟨.ref s.heap.objs.size,_,I2,rfl,⟨_,rfl,fun xs' ys' x' y' q1' q2' e1' e2' =>?_⟩,⟨b1,b2.extBut _ _ D.TIz (a7 _ _ (fun q=>q.elim D.TIz fun q=>q.elim D.TITO fun q=>q.elim D.TIi1 D.TIi2) kj),⟨_,_,b2.extBut _ _ D.TOz a2⟩,a3.at fun o e=>b2.extBut _ _ D.i1z e,a4.at fun o e=>b2.extBut _ _ D.i2z e⟩,fun c hc =>?_⟩
  ·rw[I.tY q1' q1] at e1'
   rw[I.tY q2' q2] at e2'
   rw[e1] at e1';rw[e2] at e2';cases e1';cases e2'
   exact⟨fT.1,rfl⟩
  ·obtain⟨_,_,⟨_,_,rf⟩,h1,h2⟩:=st
   have xW:c<s.heap.objs.size:=by
    simp at hc
    rcases hc with rfl|rfl|rfl|rfl|rfl
    ·exact Jf hz
    ·exact Jf kj
    ·exact Jf rf
    ·exact h1.lt
    ·exact h2.lt
   rw[ao (cu xW (Jd _))]
   exact(hf c hc).1
 done:=fun X hP hw hK hc i pins s σ H E I hf st stop=>by
  subst hP hw hK
  obtain⟨xs,ys,q1,q2,e⟩:=stop
  refine aj.el (I.lT q1) _ ?_
  rintro its1 r1 p1 _
  refine aj.el (I.lT q2) _ ?_
  rintro its2 r2 p2 _
  have Sm:=r1.length
  have Ti:=r2.length
  refine zV (I.ok.hd hc) D st p1 p2 ?_ fun h' kp=>⟨rfl,?_⟩
  ·rcases e with e|e
   ·exact .inl (by simp;omega)
   ·exact .inr (by simp;omega)
  ·refine I.iter (ch:=[z,TO,i1,i2]) (t':=s.toks) (fun c hc=>hf c (by simp at hc ⊢;rcases hc with q|q|q|q<;>simp[q])) fun c o hc e =>?_
   simp only[Jm,J7,or_false] at hc
   exact kp c o hc e
 self:=fun A i s Q E st hQ=>wpAny_pyIter_zip st.zp hQ
section
variable {X:Cx}
def Ki (K:Ja)(ta:TA):TI:=fun σ H R=>ta σ H fun vs H1=>rX fun k1 k2 a b=>vs=[.ref a,.ref b]/\(∃xs,kU k1 K H1 a xs)/\(∃ys,kU k2 K H1 b ys)/\R (JZ K k1 k2 a b) H1
theorem xj (K:Ja){elts:List Expr}{k:Nat}{tp:Pos}{a b:Expr}{ta:TA}{p pos:Pos}(hg:Gl X "zip")(hm:X.mg "zip" = none)(ha:PA X [a,b] ta)(hb:bootBuiltins "zip" = some (.type "zip"):=by first|rfl|decide)
  (hs:starEach [a,b] X.env=[(false,eval a X.env),(false,eval b X.env)]:=by rfl) (uF:starEach [b] X.env=[(false,eval b X.env)]:=by rfl) (hK:X.K=K:=by rfl) :
  PI X (.Tuple elts k tp) (.Call (.Name "zip" p) [a,b] [] pos) (Ki K ta):=by
 subst hK
 intro pins s σ H R I h
 refine Call_ (dU I hg hm hb (PyProof.Rows.callWith_type1 (bG (ha s σ H _ I h) fun us s1 ⟨vs,H1,I1,r1,q1⟩=>?_) (by rw[hs,uF]) (by rw[uF];rfl)))
 obtain⟨k1,k2,l1,l2,e,⟨xs,q1⟩,⟨ys,q2⟩,q⟩:=q1
 subst e
 refine aj.el (vals2 r1) _ ?_
 rintro u w' rfl r1 r2
 cases r1;cases r2
 refine aj.el (I1.lT q1) _ ?_
 rintro its1 rv1 p1 _
 refine aj.el (I1.lT q2) _ ?_
 rintro its2 rv2 p2 _
 refine zE p1 p2 fun h' st hk=>wpAny_pyIter_zip st.zp ?_
 have I2:Inv X pins σ H1 { s1 with heap:=h' }:=I1.kept (t':=s1.toks) hk
 refine⟨_,_,_,_,H1,rfl,I2,zP k1 k2 _ _ _ _ _ _ _ (zipApart_new p1.lt p2.lt),st,fun c hc =>?_,q⟩
 have xW:s1.heap.objs.size<=c:=by
  simp at hc
  rcases hc with rfl|rfl|rfl|rfl|rfl
  ·exact Ug _ _
  ·exact Ug _ _
  ·exact Ug _ _
  ·exact Jd _
  ·exact Ug _ _
 exact I1.eC xW (I1.bB.fresh xW)
end
section
variable {X:Cx}
theorem Vals.mid {xs:List V}{us:List Value}{y:V}{u:Value}(r:Vals xs us)(ry:RelV y u)(k:Nat):Vals (xs.take k++y::xs.drop k) (us.take k++u::us.drop k):=(r.take k).append (.cons ry (r.drop k))
theorem xY:DJ X "list.insert" (fun x vs H Q=>∃l xs i y,x = .ref l/\vs=[.int i,y]/\H l=some (.lst xs)/\0<=i/\i<=(xs.length:Int)/\xs.length<sizeLine/\∀H',oZ H l (.lst (xs.take i.toNat++y::xs.drop i.toNat)) H'->Q .non H'):=by
 intro pins s σ H x vs v us Q I rx rv h
 obtain⟨l,xs,i,y,rfl,rfl,hH,h0,h1,hz,q⟩:=h
 cases rx
 obtain⟨w1,w2,rfl,ri,ry⟩:=vals2 rv
 obtain⟨t,rfl⟩:=ri
 obtain⟨z,aA,n,r,hl,e⟩:=I.o7 hH
 have Iu:¬((!Builtin.List.listFitsIndex i)=true):=by
  have V3:sizeLine<2^62:=by decide
  simp only[Builtin.List.listFitsIndex,Bool.not_eq_true',Bool.not_eq_false]
  simp
  omega
 refine call_meets F.slot_list_insert ⟨_,e,rfl⟩ F.entry_list_insert (F.args_list_insert_3 _ _ _) (AutoListH.list_insert_list_int_val_1 l aA.toArray n i t w2 Iu (by rw[Jr];omega)) ⟨e,?_⟩
 refine⟨.non,_,I.B2 (its':=aA.take i.toNat++w2::aA.drop i.toNat) hH e ?_ (r.mid ry i.toNat) ?_,rfl,q _ ⟨rfl⟩⟩
 ·rw[if_neg (by omega)]
  have:min i.toNat aA.toArray.size=i.toNat:=by rw[Jr];omega
  rw[this]
  apply Array.toList_inj.mp
  simp
  rw[Ym (by simp)]
 ·rw[Jq,J0,Um,Yr];omega
end
noncomputable def Sf (z:Str):It:=⟨fun i _=>i<z.cps.size,fun i H x H'=>H'=H/\∀c,z.cps[i]? = some c->x = .str ⟨#[c]⟩,fun i _=>z.cps.size<=i⟩
theorem yQ {P:Program}{w:World}{K:Ja}{tg:Expr}(it:Addr)(z:Str)(t:Tok):Turn P w K tg (Sf z) [it] it (fun i h=>h.IsStrIter it "str_ascii_iterator" z t i) where
 mem:=by simp
 obj:=fun i h st b hb=>by
  have e:b=it:=by simpa using hb
  subst e
  obtain⟨o,h1,h2,h3⟩:=st
  exact⟨o,h1,fun v q=>by rw[h3] at q;cases q⟩
 keep:=fun i h h' st k=>by
  obtain⟨o,h1,r⟩:=st
  exact⟨o,k it (by simp) o h1,r⟩
 item:=by
  intro X hP hw hK hc i pins s σ H E I hf st hg
  subst hP hw hK
  obtain⟨f0,f1,f2,f3,f4,f5⟩:=hf it (by simp)
  have hg:i<z.cps.size:=hg
  refine wpAny_pyNext_ascii_item st (c:=z.cps[i]) (by simp[hg]) fun h' st' hs' =>?_
  have I1:Inv X pins σ H { s with heap:=h',toks:=s.toks+1 }:=I.turned (fun b o hb e=>hs'.extBut b o hb e) f0 f1 f3 f4 f5
  obtain⟨o,h1,h2,h3⟩:=id st'
  refine⟨_,rfl,xS (s:={ s with heap:=h',toks:=s.toks+1 }) (n := "str_ascii_iterator") h1 h2 h3 (by decide) ⟨.str ⟨#[z.cps[i]]⟩,H,I1,⟨_,rfl⟩,⟨rfl,fun c e =>?_⟩,st',fun b hb=>(hf b hb).1⟩⟩
  rw[Ui hg] at e
  cases e;rfl
 done:=by
  intro X hP hw hK hc i pins s σ H E I hf st hg
  subst hP hw hK
  obtain⟨f0,f1,f2,f3,f4,f5⟩:=hf it (by simp)
  exact wpAny_pyNext_ascii_end (I.ok.hd hc) st (Yl hg) fun h' eb=>⟨rfl,I.turned (t':=s.toks) (fun b o hb e=>eb b o hb e) f0 f1 f3 f4 f5⟩
 self:=fun _ _ _ _ _ st h=>wpAny_pyIter_striter_ascii st h
def OE (tl:TE):TI:=fun σ H R=>tl σ H fun x H1=>∃z,x = .str z/\z.cps.all (· < 128)=true/\R (Sf z) H1
section
variable {X:Cx}{tg:Expr}
theorem Di {l:Expr}{tl:TE}(hl:PE X l tl):PI X tg l (OE tl):=by
 intro pins s σ H R I h
 refine bG (hl s σ H _ I h) fun v s1 hz_ =>?_
 refine aj.el hz_ _ ?_
 clear hz_
 rintro x H1 I1 r1 q1
 obtain⟨z,e,hz,q⟩:=q1
 subst e
 obtain⟨t,rfl⟩:=r1
 refine wpAny_pyIter_ascii hz ?_
 refine⟨s1.heap.objs.size,[s1.heap.objs.size],_,_,H1,rfl,I1.kept (t':=s1.toks) fun b o e=>Jb _ e,yQ _ z t,⟨_,Ji _ rfl,rfl,rfl⟩,fun b hb =>?_,q⟩
 have e:b=s1.heap.objs.size:=by simpa using hb
 subst e
 exact I1.eC (Jd _) (I1.bB.fresh (Jd _))
theorem jq (K:Ja){l:Expr}{tl:TE}(hl:PE X l tl)(hK:X.K=K:=by rfl):PI X tg l (G9 K tl):=by subst hK;exact Gh hl
end
theorem zh (n:Nat):sliceRange (sliceBounds none none (some (-1)) n).1 (sliceBounds none none (some (-1)) n).2.1 (sliceBounds none none (some (-1)) n).2.2=(Wb n).map fun k=>n-1-k:=by
 have e:=PyProof.Rows.picked_rev n
 rw[<-e]
 rfl
theorem BR {α β:Type}{f: α->Option β}{g: α -> β}:∀{l:List α},(∀k∈l,f k=some (g k))->l.filterMap f=l.map g
 | [],_=>rfl
 | a::l,h=>by
  rw[List.filterMap_cons_some (h a Js),Ub,BR fun k hk=>h k (Jo _ hk)]
theorem AL (aA:List Value):slicePick aA.toArray none none (some (-1))=aA.reverse.toArray:=by
 unfold slicePick
 rw[zh,Jr]
 congr 1
 apply List.ext_getElem?
 intro i
 rw[List.filterMap_map]
 have hm:∀k∈Wb aA.length,((fun x=>aA.toArray[x]?)∘fun k=>aA.length-1-k) k=some (aA.reverse.getD k .none):=fun k hk=>by
  have hk:=List.mem_range.mp hk
  simp only[Function.comp]
  rw[Uu,List.getElem?_reverse (by omega +splitMinMax)]
  rw[List.getElem?_toArray,Jc (by omega +splitMinMax)]
  rfl
 have e2:(Wb aA.length).filterMap ((fun x=>aA.toArray[x]?)∘fun k=>aA.length-1-k)=(Wb aA.length).map fun k=>aA.reverse.getD k .none:=by
  exact BR hm
 rw[e2,Jl]
 by_cases hi:i<aA.length
 ·rw[List.getElem?_range hi,Jc (by simpa using hi)]
  simp[List.getD,hi]
 ·rw[List.getElem?_eq_none (by simp;omega),List.getElem?_eq_none (by simp;omega)]
  rfl
section
variable {X:Cx}{e:Expr}{te:TE}{pos p2 p3 p4:Pos}{j:Nat}
def Q5 (K:Ja)(te:TE):TE:=fun σ H Q=>te σ H fun x H1=>fE fun a xs=>x = .ref a/\aM K H1 a xs/\∀p H',gJ H1 p (.lst xs.reverse) H'->Q (.ref p) H'
theorem Vals.rev:∀{xs:List V} {us:List Value},Vals xs us->Vals xs.reverse us.reverse:=by
 intro xs us t
 induction t with
 | nil=>exact .nil
 | cons r _ ih=>
  rw[List.reverse_cons,List.reverse_cons]
  exact ih.append (.cons r .nil)
theorem Gi (K:Ja)(he:PE X e te)(hK:X.K=K:=by rfl):PE X (.Subscript e (.Slice none none (some (.UnaryOp .USub (.Constant (.int 1) j p4) p3)) p2) pos) (Q5 K te):=by
 subst hK
 intro pins s σ H Q I h
 refine Subscript_ (bG (he s σ H _ I h) fun v s1 hz_ =>?_)
 refine aj.el hz_ _ ?_
 clear hz_
 rintro x H1 I1 r1 q1
 obtain⟨a,xs,rfl,hx,q⟩:=q1
 cases r1
 refine wpAny_Slice ?_
 rw[evalPart_none]
 refine wpAny_pure ?_
 refine wpAny_pure ?_
 have hs:PE X (.UnaryOp .USub (.Constant (.int 1) j p4) p3) (SA (rU fun i =>.int (-i)) (tC (.int 1))):=AI va ah
 have hp:=bH hs s1 σ H1 (fun o H2=>o=some (-1)/\H2=H1) I1 ⟨1,rfl,-1,rfl,rfl,rfl⟩
 refine bG hp fun vs s3 hz_ =>?_
 refine aj.el hz_ _ ?_
 clear hz_
 rintro o H3 I3 ps eo eh
 subst eo eh
 have I4:Inv X pins σ H3 { s3 with heap:=s3.heap.push { cls := .type "slice",data := .fields #[.none,.none,vs] } }:=I3.kept (t':=s3.toks) fun b ob q=>Jb _ q
 obtain⟨aA,r,ht,hz⟩:=I4.list hx
 have hlen:=r.length
 refine tail_any (ops:=[.ref a,.ref s3.heap.objs.size]) ht.isList.typeIs slot_list_getitem.lookup ?_ (by with_unfolding_all rfl)
 refine wpAny_getItem_list_slice (st:=some (-1)) ht.isList (Heap.IsSliceOf.new ..) .none .none ps (by decide) ?_ (by rw[Jr];omega)
 rw[AL]
 refine⟨.ref _,_,I4.laid (t':=s3.toks) (o := .lst xs.reverse) (fun b ob q=>Jb _ q) (Jd _) ?_,rfl,q _ _ ⟨I4.bB.fresh (Jd _),rfl⟩⟩
 exact⟨by rw[U7];exact hz,_,0,r.rev,Ji _ rfl⟩
end
section
variable {X:Cx}{pins:List (Addr×Obj)}{σ:St}{H:Hp}{s:Shared}{scope:Scope}{Nc Fc:List Str}{js:List Nat}{cl:List (Str×Addr)}{C:Addr}{fp:List Addr}
theorem Cv (I:Inv X pins σ H s)(c:ic X scope Nc Fc js)(eE:∀n c,cl.lookup n=some c->X.env.cells.lookup n=some c)(lS:∀y∈scope.names,y.2 = .free->∃c,cl.lookup y.1=some c)
  (hC:s.heap.objs.size<=C) (hf:∀b∈fp,eu X pins H b) (ho:∀b∈fp,∃o,s.heap.get? b=some o) {h1:Heap} {t1:Nat} {m:Str->Option Value}
  (hk:∀b o,s.heap.get? b=some o->h1.get? b=some o) (hm:h1.Ns C m) :
  Inv (pf X Nc Fc scope cl C s H fp) [] (Jv Nc.length none++eI σ js) H { s with heap:=h1,toks:=t1 }:=by
 refine⟨qz I c eE lS hC hf ho,rfl,I.bare,Un.kept hk,⟨m,hm,fun i x v e1 e2 e3 =>?_⟩,fun x a e =>?_,I.bB.fresh hC,fun x a e=>I.freeC x a (eE x a e),fun p hp =>?_,I.bB.kept hk,?_⟩
 ·have e1:(Nc++Fc)[i]? = some x:=e1
  have e2:(Jv Nc.length none++eI σ js)[i]? = some (some v):=e2
  by_cases hi:i<Nc.length
  ·rw[Uy (by simpa using hi),Y0] at e2
   split at e2<;>cases e2
  ·rw[Ux (by omega)] at e1
   rw[Ux (by rw[U4];omega),U4] at e2
   refine aj.el (c.frees _ _ e1) _ ?_
   rintro mz j hj hN
   have hv: σ[j]? = some (some v):=by
    unfold eI at e2
    rw[Jl,hj] at e2
    have e2:some ((σ[j]?).join)=some (some v):=e2
    cases q: σ[j]? with
    | none=>rw[q] at e2;cases e2
    | some z=>rw[q] at e2;cases e2;rfl
   have kx:=c.free _ (cC mz) rfl
   refine aj.el (I.loc) _ ?_
   rintro m0 hn0 C4
   have QW:Ks X.env.scope x:=by
    rcases kx with k|k
    ·exact .inr (.inl k)
    ·exact .inr (.inr k)
   refine aj.el (C4 j x v hN hv QW) _ ?_
   rintro u ru lk
   refine⟨u,ru,.inr ⟨?_,?_⟩⟩
   ·rw[oK];exact fA mz
   ·obtain⟨a,ha⟩:=lS _ (cC mz) rfl
    refine⟨a,ha,?_⟩
    rcases lk with ⟨k,_⟩|⟨_,a',ha',hcell⟩
    ·rcases kx with q|q<;>(rw[k] at q;cases q)
    ·have e:=eE _ _ ha
     dsimp only at e
     rw[ha'] at e;cases e
     exact hcell.keeps hk
 ·obtain⟨v,z⟩:=I.cell x a (eE x a e)
  exact⟨v,z.keeps hk⟩
 ·have hp:p∈([]:List (Addr×Obj)):=hp
  cases hp
 ·show(Jv Nc.length none++eI σ js).length=(Nc++Fc).length
  unfold eI
  rw[Jq,Jq,U4,Je,c.lens]
end
open PySem.W
def Nv (h base:Heap)(e:Addr)(cls a0:Value)(dx:Option Addr)(fl:Value):Prop:=∃oe vs T oT ts,
 h.get? e=some oe/\oe.cls=cls/\oe.dict=dx/\oe.data = .fields vs/\vs[0]? = some a0/\vs[1]? = some (.ref T)/\base.get? T=none/\T≠e/\h.get? T=some oT/\oT.data = .fields ts/\ts[3]? = some fl
def mw (base:Heap)(l:List Env)(e:Addr)(cls a0:Value)(dx:Option Addr)(h:Heap):Prop:=base.StaysIn h/\base.get? e=none/\h.FunFrames base l/\Nv h base e cls a0 dx .none
def FQ (base:Heap)(l:List Env)(e:Addr)(cls a0:Value)(dx:Option Addr)(L:Addr)(h:Heap):Prop:=base.StaysIn h/\base.get? e=none/\h.FunFrames base l/\Nv h base e cls a0 dx (rawInt L)
theorem mw.own {base h:Heap}{l:List Env}{e:Addr}{cls a0:Value}{dx:Option Addr}(x:mw base l e cls a0 dx h):∃o,h.get? e=some o/\o.cls=cls/\o.dict=dx/\∃vs,o.data = .fields vs:=by
 obtain⟨_,_,_,oe,vs,T,oT,ts,a1,a2,a3,a4,_⟩:=x
 exact⟨oe,a1,a2,a3,vs,a4⟩
section
variable {M:Model}{A:Around}{E:Value->Shared->Prop}{s:Shared}{base:Heap}{env:Env}{outer:List Env}{L e:Addr}{cls a0:Value}{dx:Option Addr}{Q:Unit->Shared->Prop}
theorem m7 {oe:Obj}{vs:Array Value}{head:Value}{hn:Bool}(mz:A.frames=some (env::outer))(kz:s.heap.FunFrames base (env::outer))(hf:env.frame=some L)(he:s.heap.get? e=some oe)(gc:base.StaysIn s.heap)(new:base.get? e=none)
  (hd:oe.data = .fields vs) (sz:1<vs.size) (h0:vs[0]? = some a0)
  (q:∀h',base.StaysIn h'->h'.FunFrames base (env::outer)->Nv h' base e oe.cls a0 oe.dict (rawInt L)->s.heap.UpToSlots h'->Q () { s with heap:=h' }) :
  wpAny M A (do let a <-frameOf env;let pl <-entryPlaceOf L hn;let b <-EntryCells.newEntry head a .none (rawInt L) .none pl;setField (.ref e) 1 b) Q E s:=by
 have apart:e∉(env::outer).filterMap (·.frame):=fun m=>by
  obtain⟨_,o,ho,nf⟩:=kz.mem m
  rw[he] at ho;cases ho
  exact nf vs hd
 refine wpAny_bind (wpAny_frameOf_fun mz kz hf fun h1 so=>wpAny_bind (wpAny_entryPlaceOf fun pl isp =>?_))
 unfold EntryCells.newEntry newFields
 refine wpAny_bind (wpAny_newObj_type ?_ (isp.sizeOk5 _ _ _ _ _))
 obtain⟨tr,etr⟩:∃tr:Obj,tr={ cls := .type "traceback",dict:=none,data := .fields ([head,.ref L,.none,rawInt L,.none]++(if pl.isEmpty then Jv 6 Value.none else pl)).toArray }:=⟨_,rfl⟩
 rw[<-etr]
 have e1:h1.get? e=some oe:=(so.2.1 e apart).trans he
 have fY:base.StaysIn h1:=fun b o x=>(so.2.1 b fun m=>by rw[(kz.mem m).1] at x;cases x).trans (gc b o x)
 have e2:(h1.push tr).get? e=some oe:=Jb _ e1
 refine wpAny_setField e2 hd sz (q _ ?_ ?_ ?_ ?_)
 all_goals have nT:h1.objs.size≠e:=Uk (Jf e1)
 all_goals have kp:∀b o,b≠e->h1.get? b=some o->((h1.push tr).update e (Obj.mapFields (·.setIfInBounds 1 (Value.ref h1.objs.size)))).get? b=some o:=fun b o nb x=>(Ua _ _ (Ne.symm nb)).trans (Jb _ x)
 all_goals have nr:∀b o,s.heap.get? b=some o->(∀ws,o.data ≠ .fields ws)->b≠e:=fun b o x nf z=>(by rw[z,he] at x;cases x;exact nf vs hd)
 ·exact fun b o x=>kp b o (fun z=>by rw[z,new] at x;cases x) (fY b o x)
 ·refine kz.of_keeps fun b o x nf =>?_
  obtain⟨sl,hs⟩:=so.2.2 b o x
  exact⟨_,kp b _ (nr b o x nf) hs,rfl⟩
 ·have d3:=Obj.data_mapFields hd (·.setIfInBounds 1 (Value.ref h1.objs.size))
  have e3:=Jz (Obj.mapFields (·.setIfInBounds 1 (Value.ref h1.objs.size))) e2 (Obj.isFreed_of_fields d3)
  refine⟨_,_,h1.objs.size,tr,_,e3,Obj.cls_mapFields _ _,?_,d3,by rw[Array.getElem?_setIfInBounds_ne (by decide)];exact h0,by simp[sz],fY.fresh,nT,(Ua _ _ (Ne.symm nT)).trans (Ji h1 (by rw[etr];rfl)),by rw[etr],?_⟩
  ·obtain⟨c1,c2,c3,c4⟩:=oe
   cases c3<;>rfl
  ·first
    | (simp;done)
    | (rcases isp with rfl|⟨_,_,_,_,_,_,_,rfl⟩<;>simp)
 ·intro b o x nf
  obtain⟨sl,hs⟩:=so.2.2 b o x
  exact⟨sl,kp b _ (nr b o x nf) hs⟩
theorem u9 {oe:Obj}{vs:Array Value}(mz:A.frames=some (env::outer))(kz:s.heap.FunFrames base (env::outer))(hf:env.frame=some L)(he:s.heap.get? e=some oe)(gc:base.StaysIn s.heap)(new:base.get? e=none)
  (hd:oe.data = .fields vs) (h1:vs[1]? = some .none) (h0:vs[0]? = some a0) (q:∀h',FQ base (env::outer) e oe.cls a0 oe.dict L h'->s.heap.UpToSlots h'->Q () { s with heap:=h' }):wpAny M A (noteFrame (.ref e) env) Q E s:=by
 unfold noteFrame
 simp only[hf]
 refine wpAny_bind (wpAny_field he hd h1 ?_)
 rw[if_neg (by decide)]
 exact m7 mz kz hf he gc new hd (Yb.mp h1).1 h0 fun h' k1 k2 k3 k4=>q h' ⟨k1,new,k2,k3⟩ k4
theorem slot_set {T:Addr}{oT:Obj}{ts:Array Value}{x:Value}(hT:s.heap.get? T=some oT)(dT:oT.data = .fields ts)(nT:base.get? T=none)(gc:base.StaysIn s.heap){l:List Env}(kz:s.heap.FunFrames base l):
  (∀b,b≠T->(s.heap.update T (Obj.mapFields (·.setIfInBounds 3 x))).get? b=s.heap.get? b)/\base.StaysIn (s.heap.update T (Obj.mapFields (·.setIfInBounds 3 x)))/\(s.heap.update T (Obj.mapFields (·.setIfInBounds 3 x))).FunFrames base l /\
   ∀b o,s.heap.get? b=some o->(∀ws,o.data ≠ .fields ws)->(s.heap.update T (Obj.mapFields (·.setIfInBounds 3 x))).get? b=some o:=by
 have off:∀b,b≠T->(s.heap.update T (Obj.mapFields (·.setIfInBounds 3 x))).get? b=s.heap.get? b:=fun b nb=>Ua _ _ (Ne.symm nb)
 have kp:∀b o,s.heap.get? b=some o->(∀ws,o.data ≠ .fields ws)->(s.heap.update T (Obj.mapFields (·.setIfInBounds 3 x))).get? b=some o:=fun b o z nf=>
  (off b fun w=>by rw[w,hT] at z;cases z;exact nf ts dT).trans z
 exact⟨off,fun b o z=>(off b fun w=>by rw[w,nT] at z;cases z).trans (gc b o z),kz.of_keeps fun b o z nf=>⟨o,kp b o z nf,rfl⟩,kp⟩
theorem xU (mz:A.frames=some (env::outer))(hf:env.frame=some L)(oU:mw base (env::outer) e cls a0 dx s.heap)(q:∀h',FQ base (env::outer) e cls a0 dx L h'->s.heap.UpToSlots h'->Q () { s with heap:=h' }):wpAny M A (noteFrame (.ref e) env) Q E s:=by
 obtain⟨gc,new,kz,oe,vs,T,oT,ts,he,rfl,rfl,hd,h0,h1,nT,ne,hT,dT,h3⟩:=oU
 obtain⟨off,da,fu2,kp⟩:=slot_set (x := .none) hT dT nT gc kz
 unfold noteFrame
 simp only[hf]
 refine wpAny_bind (wpAny_field he hd h1 ?_)
 rw[if_pos (show(Value.ref T != Value.none)=true by simp)]
 refine wpAny_bind (wpAny_field hT dT h3 ?_)
 rw[if_neg (show ¬((Value.none==rawInt L)=true) by simp[rawInt])]
 refine wpAny_bind (wpAny_setField hT dT (Yb.mp h3).1 ?_)
 refine m7 mz fu2 hf ((off e (Ne.symm ne)).trans he) da new hd (Yb.mp h1).1 h0 fun h' k1 k2 k3 k4=>q h' ⟨k1,new,k2,k3⟩ fun b o z nf=>k4 b o (kp b o z nf) nf
theorem lands {l:List Env}{fl:Value}(gc:base.StaysIn s.heap)(new:base.get? e=none)(kz:s.heap.FunFrames base l)(tr:Nv s.heap base e cls a0 dx fl)(q:∀h',mw base l e cls a0 dx h'->s.heap.UpToSlots h'->Q () { s with heap:=h' }):
  wpAny M A (setFlight (.ref e) none) Q E s:=by
 obtain⟨oe,vs,T,oT,ts,he,rfl,rfl,hd,h0,h1,nT,ne,hT,dT,h3⟩:=tr
 have JC:3<ts.size:=(Yb.mp h3).1
 obtain⟨off,da,fu2,kp⟩:=slot_set (x:=(none:Option Addr).elim Value.none fun f=>rawInt f) hT dT nT gc kz
 unfold setFlight
 refine wpAny_bind (wpAny_field he hd h1 ?_)
 rw[if_pos (show(Value.ref T != Value.none)=true by simp)]
 have Sx:=Obj.data_mapFields dT (·.setIfInBounds 3 ((none:Option Addr).elim Value.none fun f=>rawInt f))
 exact wpAny_setField hT dT JC (q _ ⟨da,new,fu2,oe,vs,T,_,_,(off e (Ne.symm ne)).trans he,rfl,rfl,hd,h0,h1,nT,ne,Jz _ hT (Obj.isFreed_of_fields Sx),Sx,by simp[JC]⟩ fun b o z nf=>⟨o.slots,kp b o z nf⟩)
theorem mw.tail {h:Heap}(x:mw base (env::outer) e cls a0 dx h):mw base outer e cls a0 dx h:=let ⟨a,b,⟨_,_,c⟩,d⟩:=x; ⟨a,b,c,d⟩
theorem Ai (mz:A.frames=some (env::outer))(hf:env.frame=some L)(oU:mw base (env::outer) e cls a0 dx s.heap)(q:∀h',mw base outer e cls a0 dx h'->s.heap.UpToSlots h'->Q () { s with heap:=h' }):wpAny M A (leaving env (.ref e)) Q E s:=by
 unfold leaving
 exact wpAny_bind (xU mz hf oU fun h1 hd up=>lands hd.1 hd.2.1 hd.2.2.1 hd.2.2.2 fun h2 fly2 up2=>q h2 fly2.tail (up.trans up2))
theorem qS {oe:Obj}{vs:Array Value}(mz:A.frames=some (env::outer))(kz:s.heap.FunFrames base (env::outer))(hf:env.frame=some L)(he:s.heap.get? e=some oe)(gc:base.StaysIn s.heap)(new:base.get? e=none)
  (hd:oe.data = .fields vs) (h1:vs[1]? = some .none) (h0:vs[0]? = some a0) (q:∀h',mw base outer e oe.cls a0 oe.dict h'->s.heap.UpToSlots h'->Q () { s with heap:=h' }):wpAny M A (leaving env (.ref e)) Q E s:=by
 unfold leaving
 exact wpAny_bind (u9 mz kz hf he gc new hd h1 h0 fun h1 hd up=>lands hd.1 hd.2.1 hd.2.2.1 hd.2.2.2 fun h2 fly2 up2=>q h2 fly2.tail (up.trans up2))
end
theorem bt.ex {P:Program}{w:World}{H:Hp}{h:Heap}{a:Addr}{o:HO}(x:bt P w H h a o):∃q,h.get? a=some q:=by
 cases o with
 | lst xs=>obtain⟨_,_,_,_,e⟩:=x;exact⟨_,e⟩
 | tup xs=>obtain⟨_,_,_,_,e,_⟩:=x;exact⟨_,e⟩
 | dK kvs=>obtain⟨_,_,_,_,_,_,_,e,_⟩:=x;exact⟨_,e⟩
 | dT kvs=>obtain⟨_,_,_,_,_,_,_,e,_⟩:=x;exact⟨_,e⟩
 | set S n=>obtain⟨_,_,_,_,e,_⟩:=x;exact⟨_,e⟩
 | ins C dx fs=>exact⟨_,x.2.2.2.1⟩
 | own y=>exact x
 | xd fs=>obtain⟨_,⟨_,_,_,e,_⟩,_⟩:=x;exact⟨_,e⟩
 | rng lo hi=>obtain⟨_,_,_,e⟩:=x;exact⟨_,e⟩
 | frz ob u=>exact⟨_,x.1⟩
 | tbl ps=>exact⟨_,x⟩
 | met f y=>exact⟨_,x⟩
 | ext φ=>exact x.2.1
theorem hZ.part {P:Program}{w:World}{H:Hp}{h h' B:Heap}(x:hZ P w H h)(hB:B.StaysIn h)(UD:B.StaysIn h')(iK:∀b u,H b=some u->∃o,B.get? b=some o):hZ P w H h':=fun a o e=>
 (x a o e).gc (fun b u hb q=>by
  obtain⟨o',eo⟩:∃o',B.get? b=some o':=by
   rcases hb with hb|hb
   ·subst hb;exact iK _ _ e
   ·exact iK _ _ hb
  have:=hB b o' eo
  rw[q] at this;cases this
  exact UD b _ eo) (fun _ q=>q) fun _ _ q=>q
noncomputable def oS (H:Hp)(a:Addr):Hp:=fun b=>if b=a then none else H b
theorem fQ {H:Hp}{a:Addr}:oS H a a=none:=if_pos rfl
theorem dJ {H:Hp}{a b:Addr}(h:b≠a):oS H a b=H b:=if_neg h
def uP (P:Program)(w:World)(base:Heap):yV:=fun outer H s E e s'=>wL fun ea cls t B H' dx=>e = .ref ea/\s'.os=s.os/\AllBare s'.gens/\Un (fK outer) [] H H' s.heap s'.heap/\hZ P w H' s'.heap /\
 base.StaysIn B/\(∀b o,s.heap.get? b=some o->b∉fK outer->∃o',B.get? b=some o')/\(∀b u,H' b=some u->∃o',B.get? b=some o')/\mw B outer ea cls (.ref t) dx s'.heap/\E cls dx H'
theorem kA {base h:Heap}:∀{l:List Env} {b:Addr},h.FunFrames base l->b∈fK l->∃o,h.get? b=some o/\∀vs,o.data ≠ .fields vs:=fun{l b} hl hb=>by
 refine aj.el (hl.mem hb) _ ?_
 rintro _ o e n
 exact⟨o,e,n⟩
section
variable {P:Program}{w:World}{K:Ja}{mg:Str->Option Value}{base:Heap}{N:List Str}{qual:Str}{scope:Scope}{f:Addr}{cd:Value}{A:Around}{outer:List Env}{s0:Shared}{H0:Hp}{E:XK}
theorem wX {pins:List (Addr×Obj)}{σ:St}{H:Hp}{s:Shared}{e t:Addr}{oe:Obj}{vs:Array Value}
  (I:Inv (kJ (uP P w base) P w K mg base N qual scope f cd A outer s0 H0 E) pins σ H s) (he:s.heap.get? e=some oe) (new:s0.heap.get? e=none) (hd:oe.data = .fields vs) (v1:vs[1]? = some .none) (v0:vs[0]? = some (.ref t))
  (LG:H e=none∨∃ φ,H e=some (.ext φ)) (hE:E oe.cls oe.dict (oS H e)):(kJ (uP P w base) P w K mg base N qual scope f cd A outer s0 H0 E).xe (.ref e) s:=by
 let env:=envOfC qual scope s0.heap.objs.size f cd
 let B:=hideAll s.heap (e::fK (env::outer))
 have kM:B.StaysIn s.heap:=fun b o q=>of_hideAll _ q
 have BF:s.heap.FunFrames base (env::outer):=I.stack
 have mz:(A.deeper env).frames=some (env::outer):=I.ok.frames
 have P7:∀b o,s0.heap.get? b=some o->b≠s0.heap.objs.size:=fun b o q=>Jk (Jf q)
 have oG:∀b o,s0.heap.get? b=some o->b≠e:=fun b o q z=>by rw[z,new] at q;cases q
 have GK:∀b,b∈fK (env::outer)->b=s0.heap.objs.size∨b∈fK outer:=fun b hb=>by
  have:b∈(env::outer).filterMap (·.frame):=hb
  rw[Yo] at this
  exact Jm.mp this
 have T9:∀b o,base.get? b=some o->b≠e:=fun b o q z=>by
  have q0:=I.ok.bs b o q
  exact oG b _ q0.1 z
 have iK:∀b u,oS H e b=some u->∃o,B.get? b=some o:=fun b u q=>by
  have nb:b≠e:=fun z=>by rw[z,fQ] at q;cases q
  rw[dJ nb] at q
  obtain⟨o,eo⟩:=(I.bB b u q).ex
  refine⟨o,hideAll_get _ eo fun z =>?_⟩
  rcases Jm.mp z with z|z
  ·exact nb z
  ·have:=I.rS b z
   rw[q] at this;cases this
 have MM:base.StaysIn B:=fun b o q=>by
  refine hideAll_get _ (I.bs b o q).1 fun z =>?_
  rcases Jm.mp z with z|z
  ·exact T9 b o q z
  ·have:=(BF.mem z).1
   rw[q] at this;cases this
 have ub:Un (fK outer) [] H0 H s0.heap s.heap:=I.base
 show wpAny _ _ (leaving env (.ref e)) _ _ _
 refine qS (base:=B) mz (funFrames_hide BF fun v hv a ha=>Jo _ (List.mem_filterMap.mpr ⟨v,hv,ha⟩)) rfl he kM (hideAll_none _ (Js ..)) hd v1 v0 fun h' oU up =>?_
 have hk:∀b o,b≠e->b∉fK (env::outer)->s.heap.get? b=some o->h'.get? b=some o:=fun b o ne hb q=>oU.1 b o (hideAll_get _ q fun z=>(Jm.mp z).elim ne hb)
 have tf:∀b o,b∈fK (env::outer)->s.heap.get? b=some o->∃sl,h'.get? b=some { o with slots:=sl }:=fun b o hb q=>by
  refine aj.el (kA BF hb) _ ?_
  rintro o' e' nf
  rw[q] at e';cases e'
  exact up b o q nf
 have old:∀b o,s0.heap.get? b=some o->b∉fK outer->b∉fK (env::outer):=fun b o q hb z=>(GK b z).elim (P7 b o q) hb
 have Md:hZ P w (oS H e) s.heap:=fun b u q=>by
  have nb:b≠e:=fun z=>by rw[z,fQ] at q;cases q
  rw[dJ nb] at q
  refine(I.bB b u q).gc (fun _ _ _ z=>z) (fun c z =>?_) fun c xs z =>?_
  all_goals
   have nc:c≠e:=fun y=>by
    rw[y] at z
    rcases LG with l|⟨φ,l⟩<;>(rw[l] at z;cases z)
   rw[dJ nc];exact z
 have CK:∀b o,H0 b=some o->(∀ φ,H b≠some (.ext φ))->H b≠none->oS H e b=H b:=fun b o q n1 n2=>by
  refine dJ fun z =>?_
  rw[z] at n1 n2
  rcases LG with l|⟨φ,l⟩
  ·exact n2 l
  ·exact n1 φ l
 refine⟨e,oe.cls,t,B,oS H e,oe.dict,rfl,I.os,I.bare,⟨?_,?_,?_,?_,?_,?_,?_⟩,Md.part kM oU.1 iK,MM,?_,iK,oU,hE⟩
 ·exact fun b o q n hb lV=>hk b o (oG b o q) (old b o q hb) (ub.keep b o q n hb lV)
 ·intro b o q n hb lV
  obtain⟨sl,e1⟩:=ub.slot b o q n hb lV
  obtain⟨sl',e2⟩:=tf b _ (by show b∈(env::outer).filterMap (·.frame);rw[Yo];exact Jo _ hb) e1
  exact⟨sl',e2⟩
 ·intro b o q n lV
  rw[dJ (oG b o q)]
  exact ub.free b o q n lV
 ·intro b o q lV
  obtain⟨o1,e1⟩:=ub.there b o q lV
  by_cases hb:b∈fK (env::outer)
  ·obtain⟨sl,e2⟩:=tf b o1 hb e1
   exact⟨_,e2⟩
  ·exact⟨o1,hk b o1 (oG b o q) hb e1⟩
 ·intro b xs q
  have z:=ub.iV b xs q
  rw[CK b _ q (fun φ y=>by rw[z] at y;cases y) (fun y=>by rw[z] at y;cases y)]
  exact z
 ·intro b o u q
  have z:=ub.iu b o u q
  rw[CK b _ q (fun φ y=>by rw[z] at y;cases y) (fun y=>by rw[z] at y;cases y)]
  exact z
 ·intro b ps q
  obtain⟨m,z⟩:=ub.jz b ps q
  refine⟨m,?_⟩
  rw[CK b _ q (fun φ y=>by rw[z] at y;cases y) (fun y=>by rw[z] at y;cases y)]
  exact z
 ·intro b o q hb
  obtain⟨o1,e1⟩:=ub.there b o q (by simp)
  exact⟨o1,hideAll_get _ e1 fun z=>(Jm.mp z).elim (oG b o q) (old b o q hb)⟩
theorem zm {E':XK}(hE:∀c d H,E' c d H->E c d H):Passes (uP P w base) (kJ (uP P w base) P w K mg base N qual scope f cd A outer s0 H0 E) E':=by
 intro pins σ H s ev s' I h
 let env:=envOfC qual scope s0.heap.objs.size f cd
 obtain⟨e,cls,t,B,H',dx,rfl,os',bare',u1,vN,MM,hold,iK,oU,q⟩:=h
 have mz:(A.deeper env).frames=some (env::outer):=I.ok.frames
 have ub:Un (fK outer) [] H0 H s0.heap s.heap:=I.base
 have u1:Un (fK (env::outer)) [] H H' s.heap s'.heap:=u1
 have oU:mw B (env::outer) e cls (.ref t) dx s'.heap:=oU
 have hold:∀b o,s.heap.get? b=some o->b∉fK (env::outer)->∃o',B.get? b=some o':=hold
 have P7:∀b o,s0.heap.get? b=some o->b≠s0.heap.objs.size:=fun b o q=>Jk (Jf q)
 have GK:∀b,b∈fK (env::outer)->b=s0.heap.objs.size∨b∈fK outer:=fun b hb=>by
  have:b∈(env::outer).filterMap (·.frame):=hb
  rw[Yo] at this
  exact Jm.mp this
 have eE:∀b,b∈fK outer->b∈fK (env::outer):=fun b hb=>by
  show b∈(env::outer).filterMap (·.frame)
  rw[Yo];exact Jo _ hb
 have old:∀b o,s0.heap.get? b=some o->b∉fK outer->b∉fK (env::outer):=fun b o q hb z=>(GK b z).elim (P7 b o q) hb
 have BF:s'.heap.FunFrames B (env::outer):=oU.2.2.1
 have Td:s'.os=s0.os:=os'.trans I.os
 show wpAny _ _ (leaving env (.ref e)) _ _ _
 refine Ai (base:=B) mz rfl oU fun h' yi up =>?_
 have step:∀b o,s.heap.get? b=some o->b∉fK (env::outer)->∀o1,s'.heap.get? b=some o1->h'.get? b=some o1:=fun b o q hb o1 e1=>by
  obtain⟨o',eo⟩:=hold b o q hb
  have e2:=oU.1 b o' eo
  rw[e1] at e2;cases e2
  exact yi.1 b _ eo
 have tf:∀b o,b∈fK (env::outer)->s'.heap.get? b=some o->∃sl,h'.get? b=some { o with slots:=sl }:=fun b o hb q=>by
  refine aj.el (kA BF hb) _ ?_
  rintro o' e' nf
  rw[q] at e';cases e'
  exact up b o q nf
 refine⟨e,cls,t,B,H',dx,rfl,Td,bare',⟨?_,?_,?_,?_,?_,?_,?_⟩,vN.part oU.1 yi.1 iK,MM,?_,iK,yi,hE _ _ _ q⟩
 ·intro b o q n hb lV
  have e1:=ub.keep b o q n hb lV
  have n1:=ub.free b o q n lV
  have rZ:=old b o q hb
  exact step b o e1 rZ o (u1.keep b o e1 n1 rZ (by simp))
 ·intro b o q n hb lV
  obtain⟨sl,e1⟩:=ub.slot b o q n hb lV
  have n1:=ub.free b o q n lV
  obtain⟨sl1,e2⟩:=u1.slot b _ e1 n1 (eE b hb) (by simp)
  obtain⟨sl2,e3⟩:=tf b _ (eE b hb) e2
  exact⟨sl2,e3⟩
 ·intro b o q n lV
  have n1:=ub.free b o q n lV
  obtain⟨o1,e1⟩:=ub.there b o q lV
  exact u1.free b o1 e1 n1 (by simp)
 ·intro b o q lV
  obtain⟨o1,e1⟩:=ub.there b o q lV
  obtain⟨o2,e2⟩:=u1.there b o1 e1 (by simp)
  by_cases hb:b∈fK (env::outer)
  ·obtain⟨sl,e3⟩:=tf b o2 hb e2
   exact⟨_,e3⟩
  ·exact⟨o2,step b o1 e1 hb o2 e2⟩
 ·exact fun b xs q=>u1.iV b xs (ub.iV b xs q)
 ·exact fun b o u q=>u1.iu b o u (ub.iu b o u q)
 ·intro b ps q
  obtain⟨m1,e1⟩:=ub.jz b ps q
  obtain⟨m2,e2⟩:=u1.jz b _ e1
  exact⟨m1++m2,by rw[e2,Array.append_assoc]⟩
 ·intro b o q hb
  obtain⟨o1,e1⟩:=ub.there b o q (by simp)
  exact hold b o1 e1 (old b o q hb)
end
def Et (X:Cx)(pins:List (Addr×Obj))(σ0:St)(E':XK):Value->Shared->Prop:=fun e s'=>mI fun j6 H s=>Inv X (pins++j6) σ0 H s/\uP X.prog X.w X.base X.stack H s E' e s'
noncomputable def xB (X:Cx)(pins:List (Addr×Obj))(σ0:St)(E':XK):Cx:={ X with pn:=X.pn++pins,xe:=Et X pins σ0 E' }
noncomputable def xH (X:Cx)(e:Addr):Cx:={ X with A:=X.A.mark (some (.ref e)),calm:=false,xe:=fun _ _=>False }
section
variable {X:Cx}{pins j6:List (Addr×Obj)}{σ σ0:St}{E':XK}{H:Hp}{s:Shared}
theorem Inv.UR (I:Inv X pins σ H s):Inv (xB X pins σ0 E') [] σ H s:=
 ⟨⟨I.ok.mod,I.ok.kind,I.ok.glob,I.ok.blt,I.ok.above,I.ok.inj,I.ok.has,I.ok.cab,I.ok.hd,I.ok.frames,I.ok.stk,I.ok.exf,I.ok.bs,I.ok.bsz,I.ok.noex,I.ok.exfs,I.ok.jv,I.ok.frf⟩,I.os,I.bare,I.base,I.loc,I.cell,I.free,I.freeC,
  fun p hp=>I.pin p (by have hp:p∈(X.pn++pins)++[]:=hp;simpa using hp),I.bB,I.len⟩
theorem Inv.Lg (I:Inv (xB X pins σ0 E') j6 σ H s):Inv X (pins++j6) σ H s:=
 ⟨⟨I.ok.mod,I.ok.kind,I.ok.glob,I.ok.blt,I.ok.above,I.ok.inj,I.ok.has,I.ok.cab,I.ok.hd,I.ok.frames,I.ok.stk,I.ok.exf,I.ok.bs,I.ok.bsz,I.ok.noex,I.ok.exfs,I.ok.jv,I.ok.frf⟩,I.os,I.bare,I.base,I.loc,I.cell,I.free,I.freeC,
  fun p hp=>I.pin p (by show p∈(X.pn++pins)++j6;simpa [List.append_assoc] using hp),I.bB,I.len⟩
theorem Inv.Ry {e:Addr}(I:Inv X pins σ H s):Inv (xH X e) pins σ H s:=
 ⟨⟨I.ok.mod,I.ok.kind,I.ok.glob,I.ok.blt,I.ok.above,I.ok.inj,I.ok.has,I.ok.cab,fun z=>Bool.noConfusion z,I.ok.frames,I.ok.stk,I.ok.exf,I.ok.bs,I.ok.bsz,I.ok.noex,I.ok.exfs,I.ok.jv,I.ok.frf⟩,I.os,I.bare,I.base,I.loc,I.cell,I.free,I.freeC,I.pin,I.bB,I.len⟩
theorem Inv.Nu {e:Addr}(k:X.Ok)(I:Inv (xH X e) pins σ H s):Inv X pins σ H s:=
 ⟨k,I.os,I.bare,I.base,I.loc,I.cell,I.free,I.freeC,I.pin,I.bB,I.len⟩
def xT (σ0:St)(sp:Sp)(E:XK)(t:TA):TE:=fun σ H Q =>σ = σ0/\t σ H fun vs H1=>sp vs H1 Q E
theorem Ha {k:Nat}{f:Addr}{fd:FuncData}{ps:List Str}{sp:Sp}{x:Str}{e:Expr}{es:List Expr}{t:TA}{p pos:Pos}(F:bC X.prog X.w X.K X.mg X.base (uP X.prog X.w X.base) k f fd ps sp)(hr:dw k X.A)(hg:Gl X x)(hm:X.mg x=some (.ref f))
  (hk:Ye X.K (.ref f)=true) (hb:Binds X.K fd ps []) (ha:PA (xB X pins σ0 E') (e::es) t) (o8:(x==("__debug__" : Str))=false:=by decide)
  (he:starEach (e::es) X.env=(false,eval e X.env)::starEach es X.env:=by rfl) (rD:(backTo pos (starEach es X.env)).any (·.1)=false:=by rfl) :
  PE (xB X pins σ0 E') (.Call (.Name x p) (e::es) [] pos) (xT σ0 sp E' t):=by
 intro pl s σ H Q I h
 obtain⟨hσ,h⟩:=h
 subst hσ
 refine wpAny_Call_Name_kw (ik (X:=xB X pins σ E') I hg hm ?_ o8)
 refine PySem.W.callWith_K (h₀:=X.base) I.ok.mod.wK hk (bG (ha s σ H _ I h) fun us s1 hz_=>aj.el hz_ _ fun vs H1 I1 r q=>⟨I1.iA,?_⟩) he rD
 have J1:Inv X (pins++pl) σ H1 s1:=I1.Lg
 have hl:us.length=ps.length:=by rw[<-r.length];exact F.len _ _ _ _ q
 have JL:=hb s1 us J1.iA (by simpa using hl)
 refine wpAny_call (codeAny_mono (F.run X.A X.stack s1 H1 ⟨us,[]⟩ us vs Q E' hr J1.Eo (by simpa using JL) r q) fun r s' hq =>?_)
 cases r with
 | error e=>exact⟨pl,H1,s1,J1,hq⟩
 | ok fl=>
  cases fl with
  | ret u=>exact I1.after hq
  | next=>exact False.elim hq
  | brk=>exact False.elim hq
  | cont=>exact False.elim hq
end
theorem Un.land {st:List Env}{H H':Hp}{h h1 h3 B:Heap}(u:Un (fK st) [] H H' h h1)(hold:∀b o,h.get? b=some o->b∉fK st->∃o',B.get? b=some o')(k1:B.StaysIn h1)(k3:B.StaysIn h3)(hf:h1.FunFrames B st)(up:h1.UpToSlots h3):
  Un (fK st) [] H H' h h3:=by
 have step:∀b o,h.get? b=some o->b∉fK st->∀o1,h1.get? b=some o1->h3.get? b=some o1:=fun b o q hb o1 e1=>by
  obtain⟨o',eo⟩:=hold b o q hb
  have e2:=k1 b o' eo
  rw[e1] at e2;cases e2
  exact k3 b _ eo
 have sl:∀b o,b∈fK st->h1.get? b=some o->∃l,h3.get? b=some { o with slots:=l }:=fun b o hb q=>by
  refine aj.el (kA hf hb) _ ?_
  rintro o' e' nf
  rw[q] at e';cases e'
  exact up b o q nf
 refine⟨fun b o q n hb hx=>step b o q hb o (u.keep b o q n hb hx),fun b o q n hb hx =>?_,u.free,fun b o q hx =>?_,u.iV,u.iu,u.jz⟩
 ·obtain⟨l1,e1⟩:=u.slot b o q n hb hx
  obtain⟨l2,e2⟩:=sl b _ hb e1
  exact⟨l2,e2⟩
 ·obtain⟨o1,e1⟩:=u.there b o q hx
  by_cases hb:b∈fK st
  ·obtain⟨l,e2⟩:=sl b o1 hb e1
   exact⟨_,e2⟩
  ·exact⟨o1,step b o q hb o1 e1⟩
theorem Ap {M:Model}{h:Heap}{e:Addr}{o:Obj}(he:h.get? e=some o):Looks M h (typeOf (.ref e)) o.cls:=by
 exact(Looks.ld he).andThen .now
section
variable {X:Cx}{L:Addr}{pins:List (Addr×Obj)}{σ:St}{H:Hp}{s:Shared}
theorem jt {M:Model}{A:Around}{E:Value->Shared->Prop}{i:Nat}{n:Str}{pos:Pos}{Q:Unit->Shared->Prop}(I:Inv X pins σ H s)(hN:X.N.Nodup)(hi:X.N[i]? = some n)(E6:X.env.kindOf n=some .local)
  (h:∀s',Inv X pins (σ.set i none) H s'->Q () s'):wpAny M A (do bindName X.env n .none;unbindBehindTheSuite X.env n pos) Q E s:=by
 refine aj.el (id I.loc) _ ?_
 rintro m hn hl
 have hp:(X.env.scope.kind == .class||(X.env.scope.kind == .module&&X.env.locals != X.env.globals))=false:=by rw[I.ok.kind];rfl
 obtain⟨oL,_,_,hoL,_⟩:=id hn
 refine wpAny_nameGoes_keeps E6 hn hp fun h' v hn' hs=>h _ ?_
 have off:∀b,b≠X.env.locals->h'.get? b=s.heap.get? b:=fun b hb=>hs.2 b hb
 have old:∀b o,X.s₀.heap.get? b=some o->b≠X.env.locals:=fun b o e=>Jk (Jn (Jf e) I.ok.above)
 have Gg:∀b u,H b=some u->b≠X.env.locals:=fun b u e z=>by have:=I.free;rw[<-z,e] at this;cases this
 refine⟨I.ok,I.os,I.bare,⟨fun b o e n hb hx =>?_,fun b o e n hb hx =>?_,I.base.free,fun b o e hx =>?_,I.base.iV,I.base.iu,I.base.jz⟩,⟨_,hn',fun j y w e1 e2 e3 =>?_⟩,fun y c e =>?_,I.free,I.freeC,fun p hp =>?_,?_,by simpa using I.len⟩
 ·rw[off b (old b o e)];exact I.base.keep b o e n hb hx
 ·rw[off b (old b o e)];exact I.base.slot b o e n hb hx
 ·rw[off b (old b o e)];exact I.base.there b o e hx
 ·have hj:j≠i:=fun z=>by
   subst z
   have ji:j < σ.length:=by rw[I.len];exact(Jp.mp hi).1
   rw[Yj ji] at e2
   cases e2
  have hy:y≠n:=fun z=>hj (oH hN e1 (z▸hi))
  rw[Yc (Ne.symm hj)] at e2
  refine aj.el (hl j y w e1 e2 e3) _ ?_
  rintro u ru lk
  refine⟨u,ru,?_⟩
  rcases lk with ⟨k1,k2⟩|⟨k1,c,k2,k3⟩
  ·exact .inl ⟨k1,by show(if y=n then v else m y)=some u;rw[if_neg hy];exact k2⟩
  ·refine .inr ⟨k1,c,k2,?_⟩
   have hc:c≠X.env.locals:=I.Ff y c k2
   exact k3.sameBut hs hc
 ·obtain⟨w,z⟩:=I.cell y c e
  exact⟨w,z.sameBut hs (I.Ff y c e)⟩
 ·refine aj.el (I.pin p hp) _ ?_
  rintro p1 p2 p3 p4 p5
  exact⟨by rw[off _ p3];exact p1,p2,p3,p4,p5⟩
 ·intro b u e
  refine(I.bB b u e).gc (fun c w hc q =>?_) (fun _ q=>q) fun _ _ q=>q
  rw[off c (by
   rcases hc with hc|hc
   ·subst hc;exact Gg _ _ e
   ·exact Gg _ _ hc)]
  exact q
end
noncomputable def Mb (e:Addr)(cls:Value):HO := .ext fun h=>∃o,h.get? e=some o/\o.cls=cls
noncomputable def LU (e:Addr)(cls:Value)(d:Addr):HO := .ext fun h=>∃o,h.get? e=some o/\o.cls=cls/\o.dict=some d/\notCls o=true
noncomputable def kn (e:Addr)(cls:Value):Option Addr->HO
 | none=>Mb e cls
 | some d=>LU e cls d
theorem BX {P:Program}{w:World}{H:Hp}{h:Heap}{e:Addr}{o:Obj}{cls:Value}{dx:Option Addr}{vs:Array Value}(h1:h.get? e=some o)(h2:o.cls=cls)(h3:o.dict=dx)(h4:o.data = .fields vs):bt P w H h e (kn e cls dx):=by
 cases dx with
 | none=>exact⟨⟨o,h1,h2⟩,⟨o,h1⟩,fun a b ⟨o,e1,r⟩ k=>⟨o,k _ e1,r⟩⟩
 | some d=>exact⟨⟨o,h1,h2,h3,by obtain⟨_,_,dt,_⟩:=o;cases h4;rfl⟩,⟨o,h1⟩,fun a b ⟨o,e1,r⟩ k=>⟨o,k _ e1,r⟩⟩
section
variable {X:Cx}{L:Addr}{pins:List (Addr×Obj)}{σ:St}{H:Hp}{s:Shared}
theorem Inv.vq {e:Addr}{o:HO}(I:Inv X pins σ H s)(h0:H e=none)(h1:e≠X.env.locals)(h2:∀x c,X.env.cells.lookup x=some c->c≠e)(h3:∀p∈X.pn++pins,p.1≠e)(h4:∀b u,X.s₀.heap.get? b=some u->b≠e)
  (new:bt X.prog X.w (upd H e o) s.heap e o):Inv X pins σ (upd H e o) s:=by
 refine⟨I.ok,I.os,I.bare,⟨I.base.keep,I.base.slot,fun b u q n hx =>?_,I.base.there,fun b xs q =>?_,fun b u xs q =>?_,fun b ps q =>?_⟩,I.loc,I.cell,?_,fun x c q =>?_,fun p hp =>?_,I.bB.adopt h0 new,I.len⟩
 ·rw[ao (h4 b u q)];exact I.base.free b u q n hx
 ·have z:=I.base.iV b xs q
  rw[ao (aF z h0)];exact z
 ·have z:=I.base.iu b u xs q
  rw[ao (aF z h0)];exact z
 ·obtain⟨m,z⟩:=I.base.jz b ps q
  exact⟨m,by rw[ao (aF z h0)];exact z⟩
 ·rw[ao (Ne.symm h1)];exact I.free
 ·rw[ao (h2 x c q)];exact I.freeC x c q
 ·obtain⟨p1,p2,p3⟩:=I.pin p hp
  exact⟨p1,by rw[ao (h3 p hp)];exact p2,p3⟩
noncomputable def Ends.gone (D:Ends)(j:Nat):Ends:={ nx:=fun σ H=>D.nx (σ.set j none) H,rt:=D.rt,bk:=fun σ H=>D.bk (σ.set j none) H,ct:=fun σ H=>D.ct (σ.set j none) H }
def FN (K:Ja)(C:Addr)(j:Nat)(tb:St->XK->TS)(th:TS):TS:=fun D σ H=>∃E':XK,tb σ E' D σ H /\
 ∀cls dx H',E' cls dx H'->exmOne K cls (.ref C)=some true/\∀e,H' e=none->th (D.gone j) (σ.set j (some (.ref e))) (upd H' e (kn e cls dx))
theorem Ek {c n:Str}{j:Nat}{C:Addr}{body FE:List Stmt}{b0:Stmt}{tb:St->XK->TS}{th:TS}{np hp pos:Pos}(kM:X.stack=X.env::X.outer)(VG:X.env.frame=some L)(hN:X.N.Nodup)(hj:X.N[j]? = some n)(E6:X.env.kindOf n=some .local)
  (hg:Gl X c) (hm:X.mg c=some (.ref C)) (hb:∀pins σ0 E',uV (xB X pins σ0 E') body (tb σ0 E')) (hh:∀e,uV (xH X e) (b0::FE) th) (hd:(c==("__debug__" : Str))=false:=by decide) (hex:X.ex=[]:=by rfl) :
  PS X (.Try body [.ExceptHandler (some (.Name c np)) (some n) (b0::FE) hp] [] [] pos) (FN X.K C j tb th):=by
 intro pins s σ H D I h
 obtain⟨E',rZ,hc⟩:=h
 refine wpAny_Try_except (wpAny_mono (hb pins σ E' s σ H D I.UR rZ) (fun f s1 q =>?_) fun ev s1 q =>?_)
 ·cases f with
  | next=>
   obtain⟨σ',H',J,q⟩:=q
   have J:=J.Lg
   rw[Yg] at J
   exact wpAny_execs_nil ⟨σ',H',J,q⟩
  | brk=>
   obtain⟨σ',H',J,q⟩:=q
   have J:=J.Lg
   rw[Yg] at J
   exact⟨σ',H',J,q⟩
  | cont=>
   obtain⟨σ',H',J,q⟩:=q
   have J:=J.Lg
   rw[Yg] at J
   exact⟨σ',H',J,q⟩
  | ret u=>
   obtain⟨v,σ',H',J,r,q⟩:=q
   have J:=J.Lg
   rw[Yg] at J
   exact⟨v,σ',H',J,r,q⟩
 ·obtain⟨j6,H1,s0,J,ea,cls,t,B,H',dx,rfl,os',bare',u1,vN,MM,hold,iK,oU,q⟩:=q
  obtain⟨hx,ht⟩:=hc _ _ _ q
  have mz:X.A.frames=some (X.env::X.outer):=by rw[<-kM];exact J.ok.frames
  have Rr:B.get? ea=none:=oU.2.1
  have vK:∃oe vs,s1.heap.get? ea=some oe/\oe.data = .fields vs:=by
   refine aj.el (oU.own) _ ?_
   rintro oe e1 _ _ vs e3
   exact⟨oe,vs,e1,e3⟩
  have TN:ea∉fK X.stack:=fun z=>by
   refine aj.el (kA oU.2.2.1 z) _ ?_
   rintro o e1 e2
   refine aj.el (vK) _ ?_
   rintro oe vs e3 e4
   rw[e1] at e3;cases e3
   exact e2 vs e4
  have AB:∀b o,s0.heap.get? b=some o->b≠ea:=fun b o e z=>by
   subst z
   obtain⟨o',e'⟩:=hold b o e TN
   rw[Rr] at e';cases e'
  have Sn:H' ea=none:=by
   cases e:H' ea with
   | none=>rfl
   | some u=>obtain⟨o',e'⟩:=iK _ _ e;rw[Rr] at e';cases e'
  have yi:=oU
  rw[kM] at yi
  refine xU mz VG yi fun h4 held4 AG =>?_
  refine lands held4.1 held4.2.1 held4.2.2.1 held4.2.2.2 fun h5 fly5 up5 =>?_
  have at_:∀{h9:Heap},B.StaysIn h9->s1.heap.UpToSlots h9->Inv X pins σ H' { s1 with heap:=h9 }:=fun{h9} k9 up9=>
   (J.CY (s':={ s1 with heap:=h9 }) (ch:=[]) os' (u1.land hold oU.1 k9 oU.2.2.1 up9) (vN.part oU.1 k9 iK) bare' (fun b z=>absurd z (by simp))).fX
  have J5:=at_ fly5.1 (AG.trans up5)
  obtain⟨ob,QU,wN,_⟩:=fly5.own
  refine wpAny_handleBy_cons (codeAny_handlers_test (ik (X:=xH X ea) J5.Ry hg hm ?_ hd)) (by intro z;cases z)
  refine exm_one (K:=X.K) J5.iA (by rw[<-wN];exact Ap QU) hx _ _ _ _ (fun b o z=>z) ?_
  refine codeAny_handlers_suite_as (lands fly5.1 fly5.2.1 fly5.2.2.1 fly5.2.2.2 fun h6 fly6 up6 =>?_)
  have J6:=at_ fly6.1 ((AG.trans up5).trans up6)
  refine aj.el (fly6.own) _ ?_
  rintro o6 ho6 hc6 IU w6 hw6
  have K6:Inv X pins σ (upd H' ea (kn ea cls dx)) { s1 with heap:=h6 }:=by
   refine J6.vq Sn (fun z =>?_) (fun x k e =>?_) (fun p hp =>?_) (fun b u e =>?_) (BX ho6 hc6 IU hw6)
   ·obtain⟨m,⟨oL,_,_,e,_⟩,_⟩:=J.loc
    exact AB _ _ e z.symm
   ·obtain⟨v,o,e1,_⟩:=J.cell x k e
    exact AB _ _ e1
   ·exact AB _ _ (J.pin p (by
     have hp:p∈X.pn++pins:=hp
     rcases Us.mp hp with z|z
     ·exact Yv _ z
     ·exact Jy _ (Yv _ z))).1
   ·obtain⟨o',e'⟩:=J.base.there b u e (by rw[hex];simp)
    exact AB _ _ e'
  refine ff (X:=xH X ea) (K6.Ry) hN hj (.inl E6) (v := .ref ea) rfl (fun s7 K7 =>?_) (.inr E6)
  refine wpAny_mono (hh ea _ _ _ (D.gone j) K7 (ht ea Sn)) (fun f s8 q8 =>?_) fun _ _ z=>False.elim z
  cases f with
  | next=>obtain⟨σ',H8,J8,q8⟩:=q8;exact jt (J8.Nu J.ok) hN hj E6 fun s9 J9=>⟨_,_,J9,q8⟩
  | brk=>obtain⟨σ',H8,J8,q8⟩:=q8;exact jt (J8.Nu J.ok) hN hj E6 fun s9 J9=>⟨_,_,J9,q8⟩
  | cont=>obtain⟨σ',H8,J8,q8⟩:=q8;exact jt (J8.Nu J.ok) hN hj E6 fun s9 J9=>⟨_,_,J9,q8⟩
  | ret u=>obtain⟨v,σ',H8,J8,r,q8⟩:=q8;exact jt (J8.Nu J.ok) hN hj E6 fun s9 J9=>⟨v,_,_,J9,r,q8⟩
end
section
variable {P:Program}{w:World}{K:Ja}{mg:Str->Option Value}{base:Heap}
theorem cR.R6 {x qual:Str}{st:Stmt}{f:Addr}{fd:FuncData}{N ps:List Str}{k:Nat}{sp:Sp}(F:cR K x qual st f fd)(S:aR N ps (av st))(len:∀vs H Q E,sp vs H Q E->vs.length=ps.length)
  (tD:∀(dI:Value) (A:Around) (outer:List Env) (s:Shared) (H:Hp) (vs:List V) (Q:VK) (E:XK),dw k (A.deeper (envOfC qual (av st) s.heap.objs.size f dI))->sp vs H Q E ->
   ∃t,uV (kJ (uP P w base) P w K mg base N qual (av st) f dI A outer s H E) (dA st) t/\t { nx:=fun _ H'=>Q .non H',rt:=Q } (start N vs) H):bC P w K mg base (uP P w base) (k+1) f fd ps sp:=by
 refine aj.el (F.ex) _ ?_
 rintro oc od kV doc pm an dI ct yo rfl lk vG
 exact Fv lk vG S len fun A outer s H vs Q E hr C9=>tD dI A outer s H vs Q E hr C9
structure E1 (P:Program)(w:World)(K:Ja)(mg:Str->Option Value)(base:Heap)(k:Nat)(x:Str)(ps:List Str)(sp:Sp):Prop where
 ex:∃f fd,bC P w K mg base (uP P w base) k f fd ps sp/\Binds K fd ps []/\Ye K (.ref f)=true/\mg x=some (.ref f)
theorem E1.mono {j k:Nat}{x:Str}{ps:List Str}{sp:Sp}(F:E1 P w K mg base j x ps sp)(h:j<=k):E1 P w K mg base k x ps sp:=by
 refine aj.el (F.ex) _ ?_
 rintro f fd a b c d
 exact⟨f,fd,a.mono h,b,c,d⟩
theorem HW {X:Cx}{pins:List (Addr×Obj)}{σ0:St}{E':XK}{k:Nat}{x:Str}{ps:List Str}{sp:Sp}{p pos:Pos}{e:Expr}{es:List Expr}{t:TA}(F:E1 X.prog X.w X.K X.mg X.base k x ps sp)(hr:dw k X.A)(hg:Gl X x)
  (ha:PA (xB X pins σ0 E') (e::es) t) (o8:(x==("__debug__" : Str))=false:=by decide) (he:starEach (e::es) X.env=(false,eval e X.env)::starEach es X.env:=by rfl) (rD:(backTo pos (starEach es X.env)).any (·.1)=false:=by rfl) :
  PE (xB X pins σ0 E') (.Call (.Name x p) (e::es) [] pos) (xT σ0 sp E' t):=by
 refine aj.el (F.ex) _ ?_
 rintro f fd a b c d
 exact Ha a hr hg d c b ha o8 he rD
end
theorem E1.calm {P:Program}{w:World}{K:Ja}{mg:Str->Option Value}{base:Heap}{k:Nat}{x:Str}{ps:List Str}{sp FI:Sp}(F:E1 P w K mg base k x ps sp)(h:∀vs H Q E,FI vs H Q E->sp vs H Q (fun _ _ _=>False)):Fn P w K mg base k x ps FI:=by
 refine aj.el (F.ex) _ ?_
 rintro f fd a b c d
 refine⟨f,fd,⟨fun vs H Q E q=>a.len _ _ _ _ (h _ _ _ _ q),fun A outer s H args us vs Q E hr he hb hv hs=>codeAny_mono (a.run A outer s H args us vs Q _ hr he hb hv (h _ _ _ _ hs)) fun r s' q =>?_⟩,b,c,d⟩
 cases r with
 | error e=>obtain⟨_,_,_,_,_,_,_,_,_,_,_,_,_,_,_,z⟩:=q;exact z
 | ok fl=>cases fl<;>exact q
open PySem.Calls Builtin Builtin.ObjectAttr Builtin.Getset_descriptor
def ExcAt (e C:Addr)(h:Heap):Prop:=∃o,h.get? e=some o/\o.cls = .ref C
structure iM (K:Frag)(C:Addr):Prop where
 cl:(clsIn K C).isSome=true
 ga:findIn K (.ref C) "__getattribute__" = some (some (.builtin "BaseException.__getattribute__"))
 gt:findIn K (.ref C) "__getattr__" = some none
 ca:findIn K (.ref C) "__class__" = some (some (.builtin "object.__class__"))
 cg:specialIn K (.builtin "object.__class__") "__get__" = some (some (.builtin "getset_descriptor.__get__"))
 ct:takesIn K (.builtin "object.__class__")=some true
 mo:mroIn K C (.type "object")=some true
 mb:mroIn K C (.type "BaseException")=some true
section
variable {K:Frag}{e C:Addr}
theorem gQ {M:Model}{h:Heap}(p:ExcAt e C h):Looks M h (typeOf (.ref e)) (.ref C):=by
 obtain⟨o,h1,h2⟩:=p
 exact h2▸(Looks.ld h1).andThen .now
theorem B3 {M:Model}{h:Heap}{self:Value}(X:K.In h)(O:iM K C):Looks M h (find self (.ref C) "__class__") (.bind (.builtin "getset_descriptor.__get__") (.builtin "object.__class__")):=by
 have a:=looks_findIn (M:=M) X O.ca
 have g:Looks M h (getOf (some (.builtin "object.__class__"))) (some (.builtin "getset_descriptor.__get__")):=looks_specialIn X O.cg
 have t:=looks_takesIn (M:=M) X O.ct
 have d:Looks M h (dataDescriptor? (some (.builtin "object.__class__")) (some (.builtin "getset_descriptor.__get__"))) (some (.builtin "getset_descriptor.__get__",.builtin "object.__class__")):=t.andThen .now
 exact a.andThen (g.andThen (d.andThen (Looks.tag .now)))
variable {prog:Program}{w:World}{A:Around}{E:Value->Shared->Prop}{s:Shared}
theorem CG {R:Result->Shared->Prop}{tp:Value}(X:K.In s.heap)(O:iM K C)(p:ExcAt e C s.heap)(h:R (.ok (.ret (.ref C))) s):
  codeAny (model prog w) A (.call (.builtin "getset_descriptor.__get__") ⟨[.builtin "object.__class__",.ref e,tp],[]⟩) R s:=by
 obtain⟨hh,g,dr,t,os⟩:=s
 have T0:=gQ (M:=model prog w) p
 have T1:=looks_mroIn (M:=model prog w) X O.mo
 refine codeAny_call_builtin KF.slot_gs.plain KF.entry_gs ?_
 refine KF.slot_gs.check _ _ _ _ _ _ _ _ KF.type_class (KF.args_gs _ _ _) ?_
 unfold Builtin.«getset_descriptor.__get__» descrGet
 rw[dga_obj]
 refine wpAny_bind (wpAny_pure ?_)
 unfold descrGetter descrCheckInstance descrNameAndClass isInstance
 simp only[KF.owner_class]
 repeat lk
 refine⟨Code.quiet_builtin _ (by decide +kernel),?_⟩
 refine codeAny_builtin KF.entry_class ?_
 unfold Builtin.«object.__class__» shownTypeOf
 repeat lk
 exact h
theorem Am {tk:Tok}{Q:Fin->Shared->Prop}(X:K.In s.heap)(O:iM K C)(p:ExcAt e C s.heap)(h:Q (.done (.ret (.ref C))) s):
  wpAny (model prog w) A (Builtin.«object.__getattribute__» ⟨[.ref e,.str "__class__" tk],[]⟩) Q E s:=by
 obtain⟨hh,g,dr,t,os⟩:=s
 have T0:=gQ (M:=model prog w) p
 have T1:=B3 (M:=model prog w) (self := .ref e) X O
 unfold Builtin.«object.__getattribute__»
 refine wpAny_bind (wpAny_pure ?_)
 refine wpAny_bind (wpAny_pure ?_)
 refine wpAny_bind (T0.at (wpAny_bind (T1.at ?_)))
 show wpAny _ _ (holding [.builtin "object.__class__"] (call (.builtin "getset_descriptor.__get__") [.builtin "object.__class__",.ref e,.ref C]) >>= ret) _ _ _
 exact wpAny_bind (wpAny_holding (wpAny_call (CG X O p (wpAny_pure h))))
theorem qd {FO:Value}{Q:Unit->Shared->Prop}(X:K.In s.heap)(O:iM K C)(p:ExcAt e C s.heap)(h:Q () s):wpAny (model prog w) A (checkBuiltinCall "BaseException.__getattribute__" ⟨[.ref e,FO],[]⟩) Q E s:=by
 obtain⟨hh,g,dr,t,os⟩:=s
 have T0:=gQ (M:=model prog w) p
 have T1:=looks_mroIn (M:=model prog w) X O.mb
 have k1:builtinKind "BaseException.__getattribute__" = some .slot:=by decide +kernel
 have k2:splitId "BaseException.__getattribute__" = some ("BaseException", "__getattribute__"):=by decide +kernel
 have k3:=F.args_bexc_ga (.ref e) FO
 simp only[checkBuiltinCall,k1,k2]
 unfold isInstance
 repeat (first|lk|wp_step)
 exact h
theorem Cq {Q:Option Value->Shared->Prop}(X:K.In s.heap)(O:iM K C)(p:ExcAt e C s.heap)(h:Q (some (.ref C)) { s with toks:=s.toks+1 }):wpAny (model prog w) A (getAttr? (.ref e) "__class__") Q E s:=by
 obtain⟨hh,g,dr,t,os⟩:=s
 have T0:=gQ (M:=model prog w) p
 have T1:=looks_findIn (M:=model prog w) X O.ga
 have T2:=looks_findIn (M:=model prog w) X O.gt
 have f3:=F.attr_ValueError.ga.bind (.ref e)
 unfold getAttr? getAttrBy?
 unfold getAttrBy
 refine wpAny_bind (wpAny_mkText ?_)
 refine wpAny_bind (wpAny_attempt (wpAny_holding ?_))
 refine wpAny_bind (T0.at ?_)
 refine wpAny_bind (T1.at ?_)
 show wpAny _ _ (getAttrByItsOwn _ _ _ _ _ _) _ _ _
 unfold getAttrByItsOwn
 refine wpAny_bind ?_
 show wpAny _ _ (typeLookup (.ref C) "__getattr__") _ _ _
 refine T2.at ?_
 refine wpAny_bind (wpAny_attempt (wpAny_holding ?_))
 show wpAny _ _ (boundAndCalled _ _ _) _ _ _
 unfold boundAndCalled
 rw[f3]
 refine wpAny_bind (wpAny_pure ?_)
 refine wpAny_call (codeAny_call_builtin F.attr_ValueError.ga.plain F.entry_bexc_ga (qd (s:=⟨hh,g,dr,t+1,os⟩) X O p (Am (s:=⟨hh,g,dr,t+1,os⟩) X O p ?_)))
 exact handed_on rfl (wpAny_pure h)
theorem Cz (O:iM K C):KitX K (.ref e) (.ref C) (ExcAt e C) where
 ty:=fun _ _ _ p=>gQ p
 it:=fun _ _ X _=>by
  have z:=O.cl
  cases q:K.lookup C with
  | none=>simp[clsIn,q] at z
  | some o=>
   obtain⟨c1,c2,c3,c4⟩:=o
   cases c3<;>simp[clsIn,q] at z
   intro A Q E s k h
   unfold isType loadHead
   exact wpAny_bind (wpAny_loadPart (k _ _ (X _ _ q)) (wpAny_pure h))
 ne:=fun h tp dd aA n sl X htp=>Uv.mpr fun z=>by
  have z:C=tp:=Value.ref.inj (beq_iff_eq.mp z)
  subst z
  have z:=O.cl
  cases q:K.lookup C with
  | none=>simp[clsIn,q] at z
  | some o=>
   have w:=(X _ _ q).symm.trans htp
   cases w
   simp[clsIn,q] at z
 ca:=fun X p h=>Cq X O p h
theorem gr {C D:Addr}{cd}{b:Bool}(h1:clsIn K D=some cd)(h2:typeIn K (.ref D)=some (.type "type"))(h3:subIn K (.ref C) (.ref D)=some b)(C5:(Value.ref C==Value.ref D)=false):kitOne K (.ref C) (.ref D)=some b:=by
 unfold kitOne kitCls
 rw[if_neg (by rw[C5];decide)]
 simp[h1,h2,h3]
theorem EO {C D:Addr}{cd}(h1:subIn K (.ref D) (.type "BaseException")=some true)(h2:clsIn K D=some cd)(h3:typeIn K (.ref D)=some (.type "type"))(h4:subIn K (.ref C) (.ref D)=some true):exmOne K (.ref C) (.ref D)=some true:=by
 unfold exmOne kitCls
 rw[h1]
 simp[h2,h3,h4]
theorem BD {C:Addr}{cd}(h:clsIn K C=some cd):(clsIn K C).isSome=true:=by rw[h];rfl
theorem CC {C:Addr}:kitOne K (.ref C) (.ref C)=some true:=by
 unfold kitOne
 rw[if_pos (beq_iff_eq.mpr rfl)]
theorem Ht {C:Addr}{T:String}{b:Bool}(h1:kitMeta T=true)(h3:subIn K (.ref C) (.type T)=some b):kitOne K (.ref C) (.type T)=some b:=by
 unfold kitOne kitCls
 rw[if_neg (fun z=>by cases beq_iff_eq.mp z)]
 simp[h1,h3]
end
section
variable {X:Cx}
theorem dh {x:Str}{C:Addr}{pos:Pos}(hg:Gl X x)(hm:X.mg x=some (.ref C))(hd:(x==("__debug__" : Str))=false:=by decide):PE X (.Name x pos) (tC (.ref C)):=rH (v := .ref C) hg hm rfl hd
noncomputable def Lf:V->Option Value
 | .ref D=>some (.ref D)
 | .ty T=>some (.type T)
 | _=>none
end
section
variable {X:Cx}
theorem Dr:fL X (binaryOp .Mult) (fun x y H Q=>∃(z:Str) (n:Int),x = .str z/\y = .int n/\MulOk z n/\Q (.str (Txt.mul z n)) H):=by
 intro pins s σ H x y v u Q I rx ry h
 obtain⟨z,n,rfl,rfl,ok,q⟩:=h
 obtain⟨t,rfl⟩:=rx
 obtain⟨t',rfl⟩:=ry
 exact SB.mul ok fun t' k=>⟨.str _,H,I.tok _,⟨_,rfl⟩,q⟩
def Ky:R2:=fun x y H Q=>FA x y H Q∨∃(z:Str) (n:Int),x = .str z/\y = .int n/\MulOk z n/\Q (.str (Txt.mul z n)) H
theorem OG:fL X (binaryOp .Mult) Ky:=wM.or Dr
theorem uC {z:Str}{n:Int}(h1:z.length<=1000)(h2:n<=1000)(h3: -1000<=n):MulOk z n:=by
 refine⟨?_,fun a _ =>?_,fun a _ =>?_⟩
 ·rw[decide_eq_false (by omega),decide_eq_false (by omega)];rfl
 ·have:(1000:Int)<=(2^63-1) / n:=by
   rw[Int.le_ediv_iff_mul_le (by omega)]
   omega
  omega
 ·have:z.length*n.toNat<=1000*1000:=Nat.mul_le_mul h1 (by omega)
  show decide (_>sizeLine)=false
  simp
  exact Jg this (by decide)
end
noncomputable def oneMore {K:Type}[DecidableEq K](D:List K)(k:K):List K:=if k∈D then D else D++[k]
noncomputable def bR {K:Type}[DecidableEq K](ks:Nat->K):Nat->List K
 | 0=>[]
 | i+1=>oneMore (bR ks i) (ks i)
theorem jF {K:Type}[DecidableEq K](ks:Nat->K):∀i,(bR ks i).length<=i
 | 0=>Jd _
 | i+1=>by
  have:=jF ks i
  unfold bR oneMore
  split
  ·omega
  ·rw[Jq];exact Y9 this
section
variable {prog:Program}{w:World}{K:Type}[DecidableEq K]{knd:PySem.KeyKind prog w K}
def kh (knd:PySem.KeyKind prog w K)(h:Heap)(a:Addr)(D:List K):Prop:=h.SetOf knd a (fun k=>decide (k∈D)) D.length
theorem kh.at' {h h':Heap}{a:Addr}{D:List K}(x:kh knd h a D)(k:∀o,h.get? a=some o->h'.get? a=some o):kh knd h' a D:=by
 obtain⟨o,es,ep,t,e,r⟩:=x
 exact⟨o,es,ep,t,k _ e,r⟩
variable {A:Around}{R:Result->Shared->Prop}{I:Addr}{fp wr:List Addr}{G:Array GenState->Array GenState->Prop}{n:Nat}{P:Nat->Value->Prop}{St:Nat->Shared->Prop}
end
noncomputable abbrev kS (led:Bool):Obj:={ cls := .type "set",dict:=none,data := .set #[] 0 (.fresh 0 0 led) }
def Up (xs:List Nat):Prop:=xs.Pairwise (· < ·)
theorem Up.lt {xs:Array Nat}(h:Up xs.toList){i j:Nat}(hj:j<xs.size)(mL:i<j):xs[i]<xs[j]:=by
 have:=Uq.mp h i j (by simpa using Nat.lt_trans mL hj) (by simpa using hj) mL
 simpa using this
structure Cut (xs:Array Nat)(j p:Nat):Prop where
 le:p<=xs.size
 lo:∀i (h:i<xs.size),i<p->xs[i]<j
 hi:∀i (h:i<xs.size),p<=i->j<=xs[i]
theorem nV {xs:Array Nat}(u:Up xs.toList)(j:Nat):∀(fuel lo hi:Nat),hi-lo<=fuel->lo<=hi->hi<=xs.size->(∀i (h:i<xs.size),i<lo->xs[i]<j)->(∀i (h:i<xs.size),hi<=i->j<=xs[i])->Cut xs j (SetTable.below.go xs j fuel lo hi)
 | 0,lo,hi,hf,hl,hs,h1,h2=>by
  have e:lo=hi:=by omega
  unfold SetTable.below.go
  subst e
  exact⟨hs,h1,h2⟩
 | fuel+1,lo,hi,hf,hl,hs,h1,h2=>by
  unfold SetTable.below.go
  by_cases ji:lo<hi
  ·rw[if_pos ji]
   have hm:(lo+hi) / 2<xs.size:=by omega
   have e:xs.getD ((lo+hi) / 2) j=xs[(lo+hi) / 2]:=by simp[Array.getD,hm]
   dsimp only
   rw[e]
   by_cases hc:xs[(lo+hi) / 2]<j
   ·rw[if_pos hc]
    refine nV u j fuel _ _ (by omega) (by omega) hs (fun i h uQ =>?_) h2
    by_cases q:i=(lo+hi) / 2
    ·subst q;exact hc
    ·exact Nat.lt_trans (u.lt hm (by omega)) hc
   ·rw[if_neg hc]
    refine nV u j fuel _ _ (by omega) (by omega) (by omega) h1 (fun i h uQ =>?_)
    by_cases q:i=(lo+hi) / 2
    ·subst q;omega
    ·have:=u.lt h (show(lo+hi) / 2<i by omega)
     omega
  ·rw[if_neg ji]
   have e:lo=hi:=by omega
   subst e
   exact⟨hs,h1,h2⟩
theorem pH {xs:Array Nat}(u:Up xs.toList)(j:Nat):Cut xs j (SetTable.below xs j):=
 nV u j _ _ _ (by omega) (Uw _) (Jd _) (fun i h z=>absurd z (Y4 _)) fun i h z=>absurd h (by omega)
def eX (t:SetTable):Prop:=t.dummies = #[]/\Up t.place.toList
theorem vd {a b:Nat}{led:Bool}:eX (SetTable.fresh a b led):=⟨rfl,List.Pairwise.nil⟩
theorem iq (t:SetTable)(n:Nat):eX (t.standIn n):=⟨rfl,by
 show List.Pairwise _ (Array.range n).toList
 rw[Array.toList_range]
 exact List.pairwise_lt_range⟩
theorem has_none (j:Nat):SetTable.has #[] j=false:=by
 unfold SetTable.has
 simp
theorem zx {t:SetTable}(g:eX t)(j:Nat):t.slot j = .empty∨∃i,t.slot j = .live i:=by
 unfold SetTable.slot
 dsimp only
 split
 ·exact .inr ⟨_,rfl⟩
 ·rw[g.1,has_none]
  exact .inl rfl
theorem yh {t:SetTable}(g:eX t){j:Nat}(h:t.slot j = .empty):j∉t.place.toList:=fun hm=>by
 obtain⟨i,hi,e⟩:=Yy.mp hm
 have uQ:i<t.place.size:=by simpa using hi
 have e':t.place[i]=j:=by simpa using e
 have c:=pH g.2 j
 have hp:SetTable.below t.place j=i:=by
  have h1:¬i<SetTable.below t.place j:=fun z=>by have:=c.lo i uQ z;omega
  have h2:¬SetTable.below t.place j<i:=fun z=>by
   have hs:SetTable.below t.place j<t.place.size:=by omega
   have a:=c.hi _ hs (Jd _)
   have b:=g.2.lt uQ z
   omega
  omega
 unfold SetTable.slot at h
 dsimp only at h
 rw[hp,Ui uQ,e'] at h
 simp at h
theorem nh {t:SetTable}(g:eX t){h:Int}{j:Nat}{d:Option Nat}:∀(fuel:Nat) (p:SetTable.Probe),p.dummy=none->SetTable.probe.go t (fun _=>h+1) h fuel p=some (.empty j d)->t.slot j = .empty/\d=none
 | 0,p,hp,e=>by unfold SetTable.probe.go at e;cases e
 | fuel+1,p,hp,e=>by
  unfold SetTable.probe.go at e
  rcases zx g p.j with q|⟨i,q⟩
  ·rw[q] at e
   dsimp only at e
   cases e
   exact⟨q,hp⟩
  ·rw[q] at e
   dsimp only at e
   rw[if_neg (by rw[beq_iff_eq];omega)] at e
   refine nh g fuel _ ?_ e
   unfold SetTable.advance
   split
   ·exact hp
   ·exact hp
theorem Bn {t:SetTable}(g:eX t){j:Nat}(h:t.slot j = .empty):eX (t.put j).1:=by
 have hn:=yh g h
 have c:=pH g.2 j
 unfold SetTable.put
 refine⟨?_,?_⟩
 ·show(if SetTable.has t.dummies j=true then _ else t.dummies) = #[]
  rw[g.1,has_none,if_neg Jt]
 ·show Up (SetTable.insertAt t.place _ j).toList
  rw[SetTable.toList_insertAt]
  have u:Up t.place.toList:=g.2
  refine Yw.mpr ⟨List.Pairwise.sublist (List.take_sublist _ _) u,List.pairwise_cons.mpr ⟨fun x hx =>?_,List.Pairwise.sublist (List.drop_sublist _ _) u⟩,fun x hx y hy =>?_⟩
  ·obtain⟨i,hi,e⟩:=Yy.mp hx
   rw[List.getElem_drop] at e
   have uQ:SetTable.below t.place j+i<t.place.size:=by rw[Yr] at hi;simp at hi;omega
   have:=c.hi _ uQ (Ug _ _)
   have e':t.place[SetTable.below t.place j+i]=x:=by simpa using e
   have C5:j≠x:=fun z=>hn (by rw[z];exact List.mem_of_mem_drop hx)
   omega
  ·have Tx:x<j:=by
    obtain⟨i,hi,e⟩:=Yy.mp hx
    rw[List.getElem_take] at e
    rw[Um] at hi
    have uQ:i<t.place.size:=by simp at hi;omega
    have:=c.lo i uQ (by omega)
    have e':t.place[i]=x:=by simpa using e
    omega
   rcases Jm.mp hy with rfl|hy
   ·exact Tx
   ·obtain⟨i,hi,e⟩:=Yy.mp hy
    rw[List.getElem_drop] at e
    have uQ:SetTable.below t.place j+i<t.place.size:=by rw[Yr] at hi;simp at hi;omega
    have:=c.hi _ uQ (Ug _ _)
    have e':t.place[SetTable.below t.place j+i]=y:=by simpa using e
    omega
theorem DL {t:SetTable}(g:eX t)(n:Nat):eX (t.orStandIn n):=by
 unfold SetTable.orStandIn
 split
 ·exact g
 ·exact iq t n
theorem B5 {t:SetTable}(g:eX t)(es:Array (Int×Value))(h:Int)(x:Value):eX (layNew t es h x).2.1/\(layNew t es h x).2.1.led=t.led:=by
 unfold layNew
 split
 ·rename_i slot wasDummy hs
  dsimp only
  have wZ:t.slot slot = .empty:=by
   unfold SetTable.freeSlot at hs
   split at hs
   ·rename_i j d hp
    unfold SetTable.probe at hp
    obtain⟨h1,h2⟩:=nh g _ _ rfl hp
    subst h2
    cases hs
    exact h1
   ·cases hs
  refine⟨DL (Bn g wZ) _,?_⟩
  unfold SetTable.orStandIn
  split<;>rfl
 ·exact⟨iq t _,rfl⟩
theorem nB {β:Type}(f:Nat->Option β):∀l:List Nat,List.Sublist ((l.filterMap fun j=>(f j).map (j, ·)).map (·.1)) l
 | []=>List.Sublist.refl _
 | j::l=>by
  rw[Yo]
  cases f j with
  | none=>exact List.Sublist.cons _ (nB f l)
  | some b=>exact List.Sublist.cons_cons _ (nB f l)
theorem zw {mask finger moves:Nat}{led plain:Bool}{hs:Array Int}{t:SetTable}{order:Array Nat}(e:SetTable.laid mask finger moves led plain hs=some (t,order)):eX t/\t.led=led:=by
 unfold SetTable.laid at e
 cases q:SetTable.layClean mask hs with
 | none=>rw[q] at e;cases e
 | some owner=>
  rw[q] at e
  cases e
  refine⟨⟨rfl,?_⟩,rfl⟩
  exact List.Pairwise.sublist (nB _ _) List.pairwise_lt_range
theorem wY {t:SetTable}(es:Array (Int×Value))(n:Nat):eX (relayAll t es n).2.1/\(relayAll t es n).2.1.led=t.led:=by
 unfold relayAll
 split
 ·rename_i t' order hr
  dsimp only
  split
  ·unfold SetTable.relaid at hr
   exact zw hr
  ·exact⟨iq t _,rfl⟩
 ·exact⟨iq t _,rfl⟩
section
variable {prog:Program}{w:World}{K:Type}[DecidableEq K]{knd:PySem.KeyKind prog w K}{A:Around}{E:Value->Shared->Prop}{s:Shared}{a:Addr}
def j9 (w:World)(h:Heap)(a:Addr):Prop:=∃o es ep t,h.get? a=some o/\o.data = .set es ep t/\eX t/\(w.params.followText "set-order" = false->t.led=true)
theorem j9.at' {h h':Heap}(x:j9 w h a)(k:∀o,h.get? a=some o->h'.get? a=some o):j9 w h' a:=by
 obtain⟨o,es,ep,t,e,r⟩:=x
 exact⟨o,es,ep,t,k _ e,r⟩
def df (knd:PySem.KeyKind prog w K)(h:Heap)(a:Addr)(D:List K):Prop:=kh knd h a D/\j9 w h a
theorem sC {o:Obj}{es:Array (Int×Value)}{ep:Nat}{t:SetTable}(ho:s.heap.get? a=some o)(hd:o.data = .set es ep t){es':Array (Int×Value)}{t':SetTable}(g:eX t')(l:w.params.followText "set-order" = false->t'.led=true):
  (s.heap.update a (Obj.putSet es' t')).get? a=some { o with data := .set es' (ep+1) t' } /\ j9 w (s.heap.update a (Obj.putSet es' t')) a:=by
 have e:=Jz (Obj.putSet es' t') ho (by rw[putSet_of es' t' hd];rfl)
 rw[putSet_of es' t' hd] at e
 exact⟨e,_,_,_,_,e,rfl,g,l⟩
theorem vE {D:List K}{k:K}{x:Value}{Q:Bool->Shared->Prop}(hk:knd.is k x=true)(hx:x.scannable=true)(S:df knd s.heap a D)(room:D.length+1<scanBound)
  (fin:∀b h',U0 a s.heap h'->df knd h' a (oneMore D k)->Q b { s with heap:=h' }):wpAny (model prog w) A (setAddHashed a x (knd.hash k)) Q E s:=by
 obtain⟨HK,o',es',ep',t',xt,qR,gt',ld'⟩:=S
 obtain⟨o,es,ep,t,ho,ex,hd,el,mem,bnd,fit,len⟩:=id HK
 obtain⟨gt,ld⟩:eX t/\(w.params.followText "set-order" = false->t.led=true):=by
  rw[ho] at xt;cases xt
  rw[hd] at qR;cases qR
  exact⟨gt',ld'⟩
 have VQ:=byScan_of hx bnd el
 unfold setAddHashed setAddHashedIn setAddByScan
 refine wpAny_holding (wpAny_bind (wpAny_setState_of ho hd fit ?_))
 dsimp only
 rw[VQ,if_pos rfl]
 refine wpAny_bind (wpAny_bind (wpAny_rule (wpAny_bind (wpAny_setScan_of hk ho hd fit el ?_))))
 have LX:∀(b:Bool) {s1:Shared} {Q':Unit->Shared->Prop},Q' () s1->wpAny (model prog w) A (match b with|true=>rule "set.scan.the-table-gave-way" | false=>pure ()) Q' E s1:=fun b s1 Q' q=>by
  cases b
  ·exact wpAny_pure q
  ·exact wpAny_rule q
 cases hr:es.toList.findIdx? (fun e=>knd.is k e.2) with
 | some j=>
  obtain⟨hj,hp,_⟩:=List.findIdx?_eq_some_iff_getElem.mp hr
  have iK:k∈D:=of_decide_eq_true ((mem k).mpr ⟨_,Jx hj,hp⟩)
  refine wpAny_pure (wpAny_pure ?_)
  have q:=fin false s.heap (U0.refl a s.heap) (by
   unfold oneMore
   rw[if_pos iK]
   exact⟨HK,_,_,_,_,ho,hd,gt,ld⟩)
  exact q
 | none=>
  have GU:k∉D:=fun z=>by
   obtain⟨e,he,hp⟩:=(mem k).mp (decide_eq_true z)
   have:=List.findIdx?_eq_none_iff.mp hr e he
   rw[hp] at this;cases this
  have more:∀k',decide (k'∈oneMore D k)=(decide (k'∈D)||decide (k'=k)):=fun k'=>by
   unfold oneMore
   rw[if_neg GU]
   simp[Bool.decide_or]
  obtain⟨g1,l1⟩:=B5 gt es (knd.hash k) x
  have pm:=layNew_perm t es (knd.hash k) x
  have ft:=layNew_fits t es (knd.hash k) x
  dsimp only
  generalize layNew t es (knd.hash k) x=L at g1 l1 pm ft ⊢
  obtain⟨es1,t1,dummy,gv⟩:=L
  dsimp only at g1 l1 pm ft ⊢
  rw[Array.toList_push] at pm
  have SD:ElemsOf knd es1.toList:=(el.push hk hx).perm pm
  have Kz:∀k',decide (k'∈oneMore D k)=true ↔ ∃e∈es1.toList,knd.is k' e.2=true:=fun k'=>by
   rw[more];exact mem_push_iff hk mem pm k'
  have IV:es1.size=(oneMore D k).length:=by
   unfold oneMore
   rw[if_neg GU,<-U6,pm.length_eq,Jq,Jq,U6,len];rfl
  have fZ:(oneMore D k).length=D.length+1:=by
   unfold oneMore
   rw[if_neg GU,Jq];rfl
  have KO:es1.size<scanBound:=by omega
  have Ql:w.params.followText "set-order" = false->t1.led=true:=fun z=>l1.trans (ld z)
  have tail:∀t2:SetTable,eX t2->(w.params.followText "set-order" = false->t2.led=true)->t2.fits es1.size=true->∀c:Bool,
    wpAny (model prog w) A (do
     storeSet a es1 t2
     if c=true then do
       (match (relayAll t2 es1 (SetTable.grown es1.size)).2.2 with|true=>rule "set.scan.the-table-gave-way" | false=>pure ())
       storeSet a (relayAll t2 es1 (SetTable.grown es1.size)).1 (relayAll t2 es1 (SetTable.grown es1.size)).2.1
       pure (some true)
      else pure (some true)) (fun r s'=>r=some true/\∃h',s'={ s with heap:=h' } /\ U0 a s.heap h'/\df knd h' a (oneMore D k)) E s:=by
   intro t2 g2 ld2 ft2 c
   refine wpAny_bind (wpAny_storeSet_of ho hd ?_ (fits_of_scanBound KO))
   obtain⟨e1,gs1⟩:=sC (es':=es1) ho hd g2 ld2
   have C3:=U0.update s.heap a (Obj.putSet es1 t2)
   cases c with
   | false=>
    rw[if_neg Jt]
    exact wpAny_pure ⟨rfl,_,rfl,C3,⟨_,_,_,_,e1,ex,rfl,SD,Kz,KO,ft2,IV⟩,gs1⟩
   | true=>
    rw[if_pos rfl]
    have xA:=relayAll_perm t2 es1 (SetTable.grown es1.size)
    have NQ:=relayAll_fits t2 es1 (SetTable.grown es1.size)
    obtain⟨g3,l3⟩:=wY (t:=t2) es1 (SetTable.grown es1.size)
    generalize relayAll t2 es1 (SetTable.grown es1.size)=L2 at xA NQ g3 l3 ⊢
    obtain⟨es2,t3,gv2⟩:=L2
    dsimp only at xA NQ g3 l3 ⊢
    have Lc:es2.size=es1.size:=by rw[<-U6,xA.length_eq,U6]
    refine wpAny_bind (LX _ ?_)
    refine wpAny_bind (wpAny_storeSet_of e1 rfl ?_ (fits_of_scanBound (by omega)))
    obtain⟨e2,gs2⟩:=sC (s:={ s with heap:=s.heap.update a (Obj.putSet es1 t2) }) (es':=es2) e1 rfl g3 (fun z=>l3.trans (ld2 z))
    refine wpAny_pure ⟨rfl,_,rfl,C3.trans (U0.update _ a _),⟨_,_,_,_,e2,ex,rfl,SD.perm xA,fun k'=>(Kz k').trans ⟨fun hz_=>aj.el hz_ _ fun e he q=>⟨e,xA.mem_iff.mpr he,q⟩,fun hz_=>aj.el hz_ _ fun e he q=>⟨e,xA.mem_iff.mp he,q⟩⟩,by omega,NQ,Lc.trans IV⟩,gs2⟩
  have out:∀(r:Option Bool) s',(r=some true/\∃h',s'={ s with heap:=h' } /\ U0 a s.heap h'/\df knd h' a (oneMore D k))->wpAny (model prog w) A (match r with|some added=>pure added|none=>setAddHashedIn a x (knd.hash k) 99999) Q E s':=by
   rintro r s' ⟨rfl,h',rfl,sb,sk⟩
   exact wpAny_pure (fin true h' sb sk)
  refine wpAny_bind (LX _ ?_)
  cases rD:t1.plain with
  | false=>
   rw[if_neg Jt]
   refine wpAny_bind (wpAny_pure ?_)
   rw[if_pos rfl]
   exact wpAny_mono (tail t1 g1 Ql ft _) (fun r s' q=>out r s' q) fun _ _ z=>z
  | true=>
   rw[if_pos rfl]
   refine wpAny_bind ?_
   rw[hashByValue_scannable 8 hx]
   refine wpAny_pure ?_
   cases plainKind x with
   | true=>
    rw[if_pos rfl]
    exact wpAny_mono (tail t1 g1 Ql ft _) (fun r s' q=>out r s' q) fun _ _ z=>z
   | false=>
    rw[if_neg Jt]
    exact wpAny_mono (tail { t1 with plain:=false } g1 Ql (SetTable.fits_plain_off ft) _) (fun r s' q=>out r s' q) fun _ _ z=>z
theorem df.at' {D:List K}{h h':Heap}(x:df knd h a D)(k:∀o,h.get? a=some o->h'.get? a=some o):df knd h' a D:=⟨x.1.at' k,x.2.at' k⟩
theorem Br {D:List K}{k:K}{x:Value}{Q:Value->Shared->Prop}(hk:knd.is k x=true)(hx:x.scannable=true)(S:df knd s.heap a D)(room:D.length+1<scanBound)
  (fin:∀h',U0 a s.heap h'->df knd h' a (oneMore D k)->Q .none { s with heap:=h',toks:=s.toks+1 }):wpAny (model prog w) A (call (.builtin "set.add") [.ref a,x]) Q E s:=by
 refine wpAny_call_entry F.slot_set_add (show s.heap.SetOf knd a _ _ from S.1).typeIs F.entry_set_add ?_ (F.args_set_add_2 _ _)
 unfold Builtin.«set.add» Builtin.Frozenset.oneOther Builtin.Frozenset.addrOf setAdd
 simp only[List.isEmpty_nil,bind_assoc]
 refine wpAny_bind (wpAny_pure (wpAny_bind (wpAny_pure (wpAny_bind (wpAny_holding (wpAny_bind (knd.pyHash hk ?_)))))))
 exact vE (s:={ s with toks:=s.toks+1 }) hk hx S room fun b h' sb sk=>wpAny_pure ⟨_,rfl,fin h' sb sk⟩
end
noncomputable def Ad:PyData->Str
 | .str x=>x
 | d=>d.shown
section
variable {X:Cx}{pins:List (Addr×Obj)}{σ:St}{H:Hp}{s:Shared}
mutual
theorem qm (I:Inv X pins σ H s):∀(d:PyData) (x:V) (u:Value),Den X.K H d x->RelV x u->∃as,Reads s.heap u d as
 | .none,x,u,h,r=>by unfold Den at h;subst h;cases r;exact⟨_,.none⟩
 | .bool b,x,u,h,r=>by unfold Den at h;subst h;cases r;exact⟨_,.bool b⟩
 | .int i,x,u,h,r=>by unfold Den at h;subst h;obtain⟨t,rfl⟩:=r;exact⟨_,.int i t⟩
 | .str y,x,u,h,r=>by unfold Den at h;subst h;obtain⟨t,rfl⟩:=r;exact⟨_,.str y t⟩
 | .list ds,x,u,h,r=>by
  unfold Den at h
  obtain⟨a,vs,rfl,h1,h2⟩:=h
  cases r
  obtain⟨aA,rv,pl,hz⟩:=I.list h1
  obtain⟨o,e1,e2,n,e3⟩:=pl.isList
  obtain⟨bs,hb⟩:=j1 I ds vs aA h2 rv
  exact⟨_,.list e1 e2 e3 (by simpa using hb)⟩
 | .tuple ds,x,u,h,r=>by
  unfold Den at h
  obtain⟨a,vs,rfl,h1,h2⟩:=h
  cases r
  obtain⟨aA,rv,⟨o,e1,e2,n,e3⟩,hz⟩:=I.tuple h1
  obtain⟨bs,hb⟩:=j1 I ds vs aA h2 rv
  exact⟨_,.tuple e1 e2 e3 (by simpa using hb)⟩
 | .dict _,x,u,h,r=>by unfold Den at h;exact h.elim
theorem j1 (I:Inv X pins σ H s):∀(ds:List PyData) (vs:List V) (us:List Value),au X.K H ds vs->Vals vs us->∃as,ReadsAll s.heap us ds as
 | [],vs,us,h,r=>by unfold au at h;subst h;cases r;exact⟨_,.nil⟩
 | d::ds,vs,us,h,r=>by
  unfold au at h
  obtain⟨v,vr,rfl,h1,h2⟩:=h
  cases r with
  | cons r1 r2=>
   obtain⟨as,ha⟩:=qm I d _ _ h1 r1
   obtain⟨bs,hb⟩:=j1 I ds _ _ h2 r2
   exact⟨_,.cons ha hb⟩
end
mutual
theorem nodict {K:Ja}{H:Hp}:∀(d:PyData) (x:V),Den K H d x->d.hasDict=false
 | .none,_,_=>rfl
 | .bool _,_,_=>rfl
 | .int _,_,_=>rfl
 | .str _,_,_=>rfl
 | .list ds,x,h=>by
  unfold Den at h
  obtain⟨a,vs,_,_,h2⟩:=h
  simp only[PyData.hasDict]
  exact qC ds vs h2
 | .tuple ds,x,h=>by
  unfold Den at h
  obtain⟨a,vs,_,_,h2⟩:=h
  simp only[PyData.hasDict]
  exact qC ds vs h2
 | .dict _,x,h=>by unfold Den at h;exact h.elim
theorem qC {K:Ja}{H:Hp}:∀(ds:List PyData) (vs:List V),au K H ds vs->PyData.hasDictAll ds=false
 | [],_,_=>rfl
 | d::ds,vs,h=>by
  unfold au at h
  obtain⟨v,r,_,h1,h2⟩:=h
  simp only[PyData.hasDictAll,nodict d v h1,qC ds r h2,Bool.or_false]
end
def Qi (K:Ja):List V->Hp->VK->Prop:=fun xs H Q=>fE fun(x:V) (d:PyData)=>xs=[x]/\Den K H d x/\d.showable=true/\d.depth<=40/\d.shown.length<=sizeLine/\Q (.str (Ad d)) H
theorem Ig (K:Ja)(hg:X.A.guards=some [])(hu:X.A.units+64<cLine)(hK:X.K=K:=by rfl):bN X (.type "str") (Qi K):=by
 subst hK
 intro pins s σ H xs us Q I r h
 obtain⟨x,d,rfl,hd,hs,hp,hz,q⟩:=h
 obtain⟨u,rfl,ru⟩:=vals1 r
 have nd:=nodict d x hd
 obtain⟨as,rd⟩:=qm I d x u hd ru
 cases d with
 | none=>cases rd;exact PySem.P.str_of_none ⟨.str _,H,I.tok _,⟨_,rfl⟩,q⟩
 | bool b=>cases rd;exact PySem.P.str_of_bool ⟨.str _,H,I.tok _,⟨_,rfl⟩,q⟩
 | int i=>
  cases rd
  refine PySem.P.str_of_int (by simpa [PyData.showable] using hs) ⟨.str _,H,I.tok _,⟨_,rfl⟩,q⟩
 | str y=>cases rd;exact PySem.P.str_of_str ⟨.str _,H,I,⟨_,rfl⟩,q⟩
 | list ds=>
  have Ou:∃a,u = .ref a:=by cases rd;exact⟨_,rfl⟩
  obtain⟨a,rfl⟩:=Ou
  exact str_of_reads rd hs (fun z=>by rw[nd] at z;cases z) hg (by omega) (fun _ _ e=>e) (fun h' u' tk k=>⟨.str _,H,I.kept k,⟨_,rfl⟩,q⟩) hz
 | tuple ds=>
  have Ou:∃a,u = .ref a:=by cases rd;exact⟨_,rfl⟩
  obtain⟨a,rfl⟩:=Ou
  exact str_of_reads rd hs (fun z=>by rw[nd] at z;cases z) hg (by omega) (fun _ _ e=>e) (fun h' u' tk k=>⟨.str _,H,I.kept k,⟨_,rfl⟩,q⟩) hz
 | dict _=>unfold Den at hd;exact hd.elim
end
structure pF (P:Program)(w:World)(K:Type)[DecidableEq K] where
 knd:PySem.KeyKind P w K
 v:K->V
 ok:∀k u,RelV (v k) u->knd.is k u=true/\u.scannable=true
noncomputable def EZ (P:Program)(w:World):pF P w Str:=⟨strKind P w,V.str,fun k u r=>by obtain⟨t,rfl⟩:=r;exact⟨strKind_is _ _ _ _,rfl⟩⟩
noncomputable def jh {P:Program}{w:World}{K:Type}[DecidableEq K](kv:pF P w K)(a:Addr)(D:List K):HO := .ext fun h=>df kv.knd h a D
theorem xb {P:Program}{w:World}{K:Type}[DecidableEq K]{kv:pF P w K}{a:Addr}{D:List K}{H:Hp}{h:Heap}(x:df kv.knd h a D):bt P w H h a (jh kv a D):=by
 have x':=x.1
 obtain⟨o,es,ep,t,e,rest⟩:=x'
 exact⟨x,⟨o,e⟩,fun h1 h2 y k=>df.at' y k⟩
section
variable {prog:Program}{w:World}{A:Around}{R:Result->Shared->Prop}{s:Shared}
theorem vL (ex target iter:Expr)(ifs:List Expr)(scope:Scope)(pos:Pos)(it:Value)(D:Addr)(env:Env):
  compTurn (.SetComp ex [⟨target,iter,ifs,0⟩] scope pos) 0 it (.ref D) env=(do
   standAt iter.pos
   match <-pyNext it with
   | none=>pure (.done .next)
   | some v=>
    letOwnedTupleGo target it v
    assign target env v
    let mut ok:=true
    for c in ifs do
     if ok then ok <-isTrue c env (eval c env)
    if ok then
     (do
      let ev <-eval ex env
      standAt ex.pos
      let _ <-call (.builtin "set.add") [.ref D,ev])
    again (.compLoop (.SetComp ex [⟨target,iter,ifs,0⟩] scope pos) 0 it (.ref D) env)):=by rfl
theorem sv {ex target iter:Expr}{ifs:List Expr}{scope:Scope}{pos:Pos}{it:Value}{D:Addr}{env:Env}(I:Nat->Shared->Prop)
  (turn:∀n s,I n s->wpAny (model prog w) A (pyNext it) (fun r s1=>match r with
   | none=>R (.ok .next) s1
   | some v=>wpAny (model prog w) A (letOwnedTupleGo target it v) (fun _ s1'=>wpAny (model prog w) A (assign target env v) (fun _ s2=>
     wpAny (model prog w) A (rM ifs env) (fun ok s3=>
      if ok=true then wpAny (model prog w) A (eval ex env) (fun ev s4=>wpAny (model prog w) A (call (.builtin "set.add") [.ref D,ev]) (fun _ s6=>∃m,m<n/\I m s6) sj s4) sj s3
      else ∃m,m<n/\I m s3) sj s2) sj s1') sj s1) sj s)
  (n:Nat) (h:I n s):codeAny (model prog w) A (.compLoop (.SetComp ex [⟨target,iter,ifs,0⟩] scope pos) 0 it (.ref D) env) R s:=by
 refine codeAny_loop rfl I (fun n s hI=>(show wpAny _ A (Sem.onRaise (compTurn (.SetComp ex [⟨target,iter,ifs,0⟩] scope pos) 0 it (.ref D) env) (fun x=>do noteFrame x env;theTreesLotGoes x)) _ _ s from wpAny_noted ?_)) n h
 rw[vL]
 refine wpAny_bind (wpAny_standAt (wpAny_bind (fw (bG (turn n s hI) fun r s1 h1 =>?_))))
 cases r with
 | none=>exact wpAny_pure h1
 | some v=>
  refine wpAny_bind (fw (bG h1 fun _ s1' IW =>?_))
  refine wpAny_bind (fw (bG IW fun _ s2 h2=>wpAny_bind (fw (bG h2 fun ok s3 h3 =>?_))))
  cases ok with
  | false=>exact wpAny_pure ⟨rfl,h3⟩
  | true=>
   exact wpAny_bind (wpAny_bind (fw (bG h3 fun ev s4 h4=>wpAny_bind (wpAny_standAt (wpAny_bind (fw (bG h4 fun _ s6 h6=>wpAny_pure (wpAny_pure ⟨rfl,h6⟩))))))))
theorem sX {ex target iter ifs rest scope pos it acc env}(h0:codeAny (model prog w) A (.compLoop (.SetComp ex (⟨target,iter,ifs,0⟩::rest) scope pos) 0 it acc env) R s)
  (h:wpAny (model prog w) A (pyIter it) (fun it' s'=>codeAny (model prog w) A (.compLoop (.SetComp ex (⟨target,iter,ifs,0⟩::rest) scope pos) 0 it' acc env) R s') (notedBy (model prog w) A env fun x s'=>R (.error x) s') s) :
  codeAny (model prog w) A (.compStart (.SetComp ex (⟨target,iter,ifs,0⟩::rest) scope pos) 0 it acc env) R s:=by
 refine codeAny_of_tree (show wpAny _ A ((compStart (.SetComp ex (⟨target,iter,ifs,0⟩::rest) scope pos) 0 it acc env).onRaise (fun x=>do noteFrame x env;standAt theWindowsPlace)) _ _ s from wpAny_notedAt ?_)
 unfold compStart
 refine wpAny_bind (m:=ask) (wpAny_askSetting (wpAny_ite ?_))
 split
 ·first
   | exact wpAny_bind (wpAny_pure (wpAny_pure ⟨rfl,h0⟩))
   | exact wpAny_pure ⟨rfl,h0⟩
 ·refine wpAny_bind (wpAny_rule ?_)
  refine wpAny_bind (m:=standAt iter.pos) (wpAny_standAt ?_)
  exact wpAny_bind (wpAny_mono h (fun it' s' h'=>wpAny_pure ⟨rfl,h'⟩) fun _ _ x=>x)
end
section
variable {X:Cx}{pins:List (Addr×Obj)}{σ:St}{H:Hp}{s:Shared}{a:Addr}{u:Value}{A:Around}{E:Value->Shared->Prop}{K:Type}[DecidableEq K]{kv:pF X.prog X.w K}
theorem KW {D:List K}{k:K}{Q:Value->Shared->Prop}(I:Inv X pins σ H s)(e:H a=some (jh kv a D))(l:D.length<=4000)(ry:RelV (kv.v k) u)
  (h:∀v s',Inv X pins σ (upd H a (jh kv a (oneMore D k))) s'->Q v s'):wpAny (model X.prog X.w) A (call (.builtin "set.add") [.ref a,u]) Q E s:=by
 have x:=(show bt X.prog X.w H s.heap a (jh kv a D) from I.bB a _ e).1
 obtain⟨h1,h2⟩:=kv.ok k u ry
 refine Br h1 h2 x (by unfold scanBound;omega) fun h' sb y =>?_
 have y':=y.1
 obtain⟨o,es,ep,t,eo,_⟩:=y'
 exact h _ _ (mP I (by rw[e];exact True.intro) sb ⟨o,eo⟩ (xb y))
end
def AO {P:Program}{w:World}{KT:Type}[DecidableEq KT](kv:pF P w KT)(J:It)(n:Nat)(js:List Nat)(g:TG)(tc:TT)(te:TE)(σ:St)(D:Addr)(H1:Hp)(fin:Hp->Prop):Prop:=
 ∃W:Nat->Nat->Hp->Prop,(∃m,W 0 m H1)/\∀i m H,W i m H ->
  (J.stop i H/\fin H) ∨
  (J.go i H/\∀x H',J.yld i H x H'->g x (Jv n none++eI σ js) H' fun σ2 H2=>tc σ2 H2 fun b H3=>
   if b=true then te σ2 H3 fun y H4=>∃ks k,H4 D=some (jh kv D ks)/\y=kv.v k/\ks.length<=4000/\∃m',m'<m/\W (i+1) m' (upd H4 D (jh kv D (oneMore ks k))) else ∃m',m'<m/\W (i+1) m' H3)
def IC {P:Program}{w:World}{KT:Type}[DecidableEq KT](kv:pF P w KT)(wi:TI)(n:Nat)(js:List Nat)(g:TG)(tc:TT)(te:TE):TE:=fun σ H Q=>wi σ H fun J H1=>∀D,H1 D=none->AO kv J n js g tc te σ D (upd H1 D (jh kv D [])) fun H2=>Q (.ref D) H2
theorem E3 {prog:Program}{w:World}{A:Around}{s:Shared}{Q:Value->Shared->Prop}{E:Value->Shared->Prop}(h:∀led,(w.params.followText "set-order" = false->led=true)->Q (.ref s.heap.objs.size) { s with heap:=s.heap.push (kS led) }):wpAny (model prog w) A (newSet (.type "set")) Q E s:=by
 unfold newSet setsByText
 refine wpAny_bind (wpAny_bind (wpAny_askSetting (wpAny_pure ?_)))
 show wpAny _ _ (newObj _ _) _ _ _
 simp only[newObj]
 exact wpAny_bind (wpAny_alloc (wpAny_pure (h _ fun z=>by show(!w.params.followText "set-order")=true;rw[z];rfl)))
theorem vY {prog:Program}{w:World}{K:Type}[DecidableEq K]{knd:PySem.KeyKind prog w K}{h:Heap}{a:Addr}{led:Bool}(e:h.get? a=some (kS led)):kh knd h a []:=by
 have z:=(setObjOf_fresh (knd:=knd) led).setOf e (by decide)
 have q:(fun k:K=>decide (k∈([]:List K)))=fun _=>false:=by funext k;simp
 show Heap.SetOf knd _ _ (fun k=>decide (k∈([]:List K))) 0
 rw[q]
 exact z
theorem wI {prog:Program}{w:World}{K:Type}[DecidableEq K]{knd:PySem.KeyKind prog w K}{h:Heap}{a:Addr}{led:Bool}(l:w.params.followText "set-order" = false->led=true)(e:h.get? a=some (kS led)):df knd h a []:=⟨vY e,_,_,_,_,e,rfl,vd,l⟩
theorem vh {X:Cx}{KT:Type}[DecidableEq KT](kv:pF X.prog X.w KT){ex tg iter:Expr}{ifs:List Expr}{scope:Scope}{pos:Pos}{Nc Fc:List Str}{js:List Nat}{wi:TI}{g:TG}{tc:TT}{te:TE}{use:Option (Value->Sem Unit)}{QV:Value->Shared->Prop}
  (i8:X.calm=true) (c:ic X scope Nc Fc js) (hi:PI X tg iter wi)
  (hg:∀cl C s H fp,PG (pf X Nc Fc scope cl C s H fp) tg g) (DN:∀cl C s H fp,HX (pf X Nc Fc scope cl C s H fp) ifs tc) (DD:∀cl C s H fp,PE (pf X Nc Fc scope cl C s H fp) ex te) (gk:Gk Nc.length g)
  {pins:List (Addr×Obj)} {s:Shared} {σ:St} {H:Hp} {fin:Addr->Hp->Prop} (I:Inv X pins σ H s)
  (h:wi σ H fun J H1=>∀D,H1 D=none->AO kv J Nc.length js g tc te σ D (upd H1 D (jh kv D [])) (fin D))
  (behind:∀(C D:Addr) (m:Str->Option Value) (H2:Hp) (s2:Shared),Inv X pins σ H2 s2->s2.heap.Ns C m->eu X pins H2 C->fin D H2->compPost (model X.prog X.w) X.A X.xe use QV (.ref D) C (.ok .next) s2)
  (hs:∀x,foldedSetIterable iter X.env x=pure x) :
  wpAny (model X.prog X.w) X.A (comprehension (.SetComp ex [⟨tg,iter,ifs,0⟩] scope pos) scope X.env (firstIterPos [⟨tg,iter,ifs,0⟩] pos) (newSet (.type "set")) false (eval iter X.env) use) QV X.xe s:=by
 obtain⟨cl,hclos,eE,lS⟩:=ow (scope:=scope) (env:=X.env) fun y hy hf=>I.ok.has y.1 (c.free y hy hf)
 refine wpAny_comprehension_free (use:=use) rfl hs hclos c.kind c.names ?_
 refine bG (hi s σ H _ I h) fun v s1 h1=>bG h1 fun MS s2 h2 =>?_
 obtain⟨it,fp,tn,J,H2,e,I2,T,da,f2,all⟩:=h2
 subst e
 refine E3 fun led hled =>?_
 refine(wpAny_newFunctionEnv c.nocell (by intro y hy;simp at hy) (fun h1 hns1 hsb1 =>?_) c.kind)
 dsimp only at hns1 hsb1 ⊢
 have HB:H2 s2.heap.objs.size=none:=I2.bB.fresh (Jd _)
 have Kg:=I2.laid (a:=s2.heap.objs.size) (o:=jh kv s2.heap.objs.size []) (h':=s2.heap.push (kS led)) (t':=s2.toks) (fun _ _ q=>Jb _ q) (Jd _) (xb (wI hled (Ji _ rfl)))
 obtain⟨W,⟨m0,w0⟩,turn⟩:=all _ HB
 have RP:∀b∈fp,∃o,s2.heap.get? b=some o:=fun b hb=>let ⟨o,e,_⟩:=T.obj 0 _ da b hb; ⟨o,e⟩
 have u6:∀b∈fp,b<s2.heap.objs.size:=fun b hb=>let ⟨o,e⟩:=RP b hb;Jf e
 generalize hG:s2.heap.push (kS led)=G at hns1 hsb1 Kg ⊢
 have toG:∀b o,s2.heap.get? b=some o->G.get? b=some o:=fun b o e=>hG▸Jb _ e
 have hC:G.objs.size=s2.heap.objs.size+1:=by rw[<-hG,J2]
 have old:∀b o,G.get? b=some o->h1.get? b=some o:=fun b o e=>
  hsb1.extBut b o (cu (Jf e) (Jd _)) (Jb _ e)
 let D:Addr:=s2.heap.objs.size
 let s2':Shared:={ s2 with heap:=G,toks:=s2.toks }
 let H2':Hp:=upd H2 D (jh kv D [])
 have PF:∀b∈fp,eu X pins H2' b:=fun b hb=>by
  obtain⟨a1,a2⟩:=f2 b hb
  refine⟨?_,a2⟩
  show upd H2 D (jh kv D []) b=none
  rw[ao (Jk (u6 b hb))];exact a1
 have fo:∀b∈fp,∃o,s2'.heap.get? b=some o:=fun b hb=>let ⟨o,e⟩:=RP b hb; ⟨o,toG b o e⟩
 have SN:∀b∈fp,b<G.objs.size:=fun b hb=>by have:=u6 b hb;rw[hC];exact Nat.lt_succ_of_lt this
 let Xc:Cx:=pf X Nc Fc scope cl G.objs.size s2' H2' fp
 have nu:∀{H':Hp},(∀b∈fp,H' b=none)->∀b∈fp,eu Xc [] H' b:=fun{H'} hn b hb=>by
  refine⟨hn b hb,?_,?_,.inl hb,fun x a e =>?_,fun p hq =>?_⟩
  ·exact cu (SN b hb) (Jd _)
  ·exact(qz Kg c eE lS (Jd _) PF fo).exfs b hb
  ·exact(f2 b hb).2.2.2.2.1 x a (eE _ _ e)
  ·have q:p∈([]:List (Addr×Obj))++[]:=hq
   simp at q
 have loop:∀t1,codeAny (model X.prog X.w) X.A (.compLoop (.SetComp ex [⟨tg,iter,ifs,0⟩] scope pos) 0 (.ref it) (.ref s2.heap.objs.size) (compEnvC scope cl G.objs.size X.env))
   (compPost (model X.prog X.w) X.A X.xe use QV (.ref s2.heap.objs.size) G.objs.size) { s2 with heap:=h1,toks:=t1 }:=by
  intro t1
  refine sv (fun n s'=>∃i H',Inv Xc [] (Jv Nc.length none++eI σ js) H' s'/\tn i s'.heap/\(∀b∈fp,H' b=none)/\W i n H') ?_ m0
   ⟨0,H2',Cv Kg c eE lS (Jd _) PF fo old hns1,T.keep _ _ _ da (fun b hb o e=>old b o (toG b o e)),fun b hb=>(PF b hb).1,w0⟩
  intro n s3
  refine aj.go ?_
  rintro i H3 I3 bJ pC w3
  rcases turn i n H3 w3 with ⟨stop,qn⟩|⟨go,step⟩
  ·refine bG (T.done Xc rfl rfl rfl i8 i _ s3 _ H3 sj I3 (nu pC) bJ stop) fun r s4 ⟨hr,I4⟩=>?_
   subst hr
   show compPost _ _ _ _ _ _ _ _ _
   refine aj.el (I4.loc) _ ?_
   rintro mC hmC _
   have OM:H3 G.objs.size=none:=I4.free
   have u:Un (fK X.stack) fp H2' H3 G s4.heap:=I4.base
   have xX:∀b∈fp,(b∈X.ex∨X.s₀.heap.objs.size<=b)/\b≠X.env.locals/\(∀x c,X.env.cells.lookup x=some c->c≠b)/\∀p∈X.pn++pins,p.1≠b:=fun b hb=>
    ⟨(f2 b hb).2.2.2.1,(f2 b hb).2.1,(f2 b hb).2.2.2.2.1,(f2 b hb).2.2.2.2.2⟩
   have NO:s4.os=s2'.os:=I4.os
   have J4:Inv X pins σ H3 s4:=Kg.CY (H':=H3) NO u I4.bB I4.bare xX
   exact behind G.objs.size D mC H3 s4 J4 hmC (Kg.eC (Jd _) OM) qn
  ·refine bG (T.item Xc rfl rfl rfl i8 i _ s3 _ H3 sj I3 (nu pC) bJ go) fun r s4 hz_=>aj.el hz_ _ fun u hr h4 =>?_
   subst hr
   show wpAny _ _ (letOwnedTupleGo tg (.ref it) u) _ _ _
   refine bG h4 fun _ s5 hz_=>aj.el hz_ _ fun x H5 I5 r5 y5 bX GB =>?_
   have Ln:=I5.pinned (nu GB) (T.obj _ _ bX)
   refine bG (hg cl G.objs.size s2' H2' fp s5 _ H5 x u _ Ln r5 (gk _ _ _ _ (step x H5 y5))) fun _ s6 hz_=>aj.el hz_ _ fun σ6 H6 I6 q6 kσ kl =>?_
   refine bG (DN cl G.objs.size s2' H2' fp s6 σ6 H6 _ I6 q6) fun b s7 hz_=>aj.el hz_ _ fun H7 I7 q7 =>?_
   have later:∀{σ':St} {H':Hp} {s':Shared},Inv Xc ([]++gF fp s5.heap) σ' H' s'->tn (i+1) s'.heap/\∀b∈fp,H' b=none:=fun{σ' H' s'} Iz=>by
    refine⟨T.keep _ _ _ bX fun b hb o e=>(Iz.pin (b,o) (Jy _ (Jy _ (eQ hb e)))).1,fun b hb =>?_⟩
    refine aj.el (T.obj _ _ bX b hb) _ ?_
    rintro o e d
    exact(Iz.pin (b,o) (Jy _ (Jy _ (eQ hb e)))).2.1
   have back:∀{pl:List (Addr×Obj)} {H':Hp} {s':Shared},Inv Xc pl σ6 H' s'->Inv Xc pl (Jv Nc.length none++eI σ js) H' s':=fun{pl H' s'} Iz=>by
    refine Iz.weak (by rw[<-kl]) fun j v hj =>?_
    by_cases hn:j<Nc.length
    ·rw[Uy (by simpa using hn),Y0] at hj
     split at hj<;>cases hj
    ·rw[kσ j (by omega)];exact hj
   cases b with
   | false=>
    rw[if_neg Jt] at q7 ⊢
    refine aj.el (q7) _ ?_
    rintro m' Dm w7
    obtain⟨l1,l2⟩:=later I7
    exact⟨m',Dm,i+1,H7,back I7.fX,l1,l2,w7⟩
   | true=>
    rw[if_pos rfl] at q7 ⊢
    refine bG (DD cl G.objs.size s2' H2' fp s7 σ6 H7 _ I7 q7) fun yv s8 hz_=>aj.el hz_ _ fun y H8 I8 r8 q8 =>?_
    refine aj.el (q8) _ ?_
    rintro ks k eD ey hl m' Dm w9
    subst ey
    refine KW (X:=Xc) (kv:=kv) I8 eD hl r8 fun _ NG I10 =>?_
    obtain⟨l1,l2⟩:=later I10
    exact⟨m',Dm,i+1,_,back I10.fX,l1,l2,w9⟩
 exact sX (loop _) (T.self _ 0 _ _ _ (T.keep _ _ _ da fun b hb o e=>old b o (toG b o e)) (loop _))
theorem Bp {X:Cx}{KT:Type}[DecidableEq KT](kv:pF X.prog X.w KT){ex tg iter:Expr}{ifs:List Expr}{scope:Scope}{pos:Pos}{Nc Fc:List Str}{js:List Nat}{wi:TI}{g:TG}{tc:TT}{te:TE}
  (i8:X.calm=true) (c:ic X scope Nc Fc js) (hi:PI X tg iter wi) (gk:Gk Nc.length g)
  (hg:∀cl C s H fp,PG (pf X Nc Fc scope cl C s H fp) tg g) (DN:∀cl C s H fp,HX (pf X Nc Fc scope cl C s H fp) ifs tc) (DD:∀cl C s H fp,PE (pf X Nc Fc scope cl C s H fp) ex te)
  (hs:∀x,foldedSetIterable iter X.env x=pure x:=by intro _;rfl) :
  PE X (.SetComp ex [⟨tg,iter,ifs,0⟩] scope pos) (IC kv wi Nc.length js g tc te):=by
 intro pins s σ H Q I h
 rw[arm_eval_SetComp]
 refine vh kv (use:=none) (fin:=fun D H2=>Q (.ref D) H2) i8 c hi hg DN DD gk I h (fun C D m H2 s2 I2 hm hC q =>?_) hs
 refine⟨m,hm,fun h' hs' =>?_⟩
 exact⟨.ref D,_,I2.turned (it:=C) (t':=s2.toks) (fun b o hb e=>hs'.extBut b o hb e) hC.1 (hC.2.1) hC.2.2.2.1 hC.2.2.2.2.1 hC.2.2.2.2.2,rfl,q⟩
theorem Aj {X:Cx}{KT:Type}[DecidableEq KT](kv:pF X.prog X.w KT):bN X (.builtin "len") (fun xs H Q=>∃(a:Addr) (D:List KT),xs=[.ref a]/\H a=some (jh kv a D)/\Q (.int (D.length:Nat)) H):=by
 intro pins s σ H xs us Q I r h
 refine aj.el (h) _ ?_
 rintro a D rfl ha q
 refine aj.el (vals1 r) _ ?_
 rintro u rfl ru
 cases ru
 obtain⟨o,es,ep,t,h1,h2,h3,h4,h5,h6,h7,h8⟩:=(show bt X.prog X.w H s.heap a (jh kv a D) from I.bB a _ ha).1.1
 have hb:scanBound=4096:=rfl
 refine call_len_set h1 h2 h3 h7 (by omega) ⟨.int (D.length:Nat),H,I.tok _,⟨_,by rw[h8]⟩,q⟩
theorem BN {P:Program}{w:World}{KT:Type}[DecidableEq KT]{kv:pF P w KT}{J:It}{n:Nat}{js:List Nat}{g:TG}{tc:TT}{te:TE}{σ:St}{D:Addr}{H1:Hp}{fin:Hp->Prop}(N:Nat)(Pv:Nat->Hp->Prop)(h0:Pv 0 H1)
  (go:∀i H (Nx:Hp->Prop),i<N->Pv i H->(∀H',Pv (i+1) H'->Nx H')->J.go i H /\
   ∀x H',J.yld i H x H'->g x (Jv n none++eI σ js) H' fun σ2 H2=>tc σ2 H2 fun b H3=>if b=true then te σ2 H3 fun y H4=>∃ks k,H4 D=some (jh kv D ks)/\y=kv.v k/\ks.length<=4000/\Nx (upd H4 D (jh kv D (oneMore ks k))) else Nx H3)
  (stop:∀H,Pv N H->J.stop N H/\fin H):AO kv J n js g tc te σ D H1 fin:=by
 refine⟨fun i m H=>m=N-i/\i<=N/\Pv i H,⟨N,by simp,Uw _,h0⟩,?_⟩
 intro i m H
 refine aj.go ?_
 rintro rfl hi p
 by_cases ji:i<N
 ·obtain⟨g1,g2⟩:=go i H (fun H'=>∃m',m'<N-i/\(m'=N-(i+1)/\i+1<=N/\Pv (i+1) H')) ji p fun H' q=>⟨_,by omega,rfl,ji,q⟩
  exact .inr ⟨g1,fun x H' y=>g2 x H' y⟩
 ·have e:i=N:=by omega
  subst e
  exact .inl (stop H p)
section
variable {X:Cx}
theorem A8:DJ X "list.reverse" (fun x vs H Q=>∃l xs,x = .ref l/\vs=[]/\H l=some (.lst xs)/\∀H',oZ H l (.lst xs.reverse) H'->Q .non H'):=by
 intro pins s σ H x vs v us Q I rx rv h
 obtain⟨l,xs,rfl,rfl,hH,q⟩:=h
 cases rx
 cases rv
 obtain⟨z,aA,n,r,hl,e⟩:=I.o7 hH
 refine call_meets F.slot_list_reverse ⟨_,e,rfl⟩ F.entry_list_reverse (F.args_list_reverse_1 _) (AutoListH.list_reverse_list_0 l aA.toArray n (by rw[Jr];omega)) ⟨e,?_⟩
 exact⟨.non,_,I.B2 (its':=aA.reverse) hH e (by simp) r.rev (by rw[U7];omega),rfl,q _ ⟨rfl⟩⟩
theorem xF {x:Str}{z:Str}{t:Tok}{pos:Pos}(hg:Gl X x)(hm:X.mg x=some (.str z t))(hd:(x==("__debug__" : Str))=false:=by decide):PE X (.Name x pos) (tC (.str z)):=rH (v := .str z) hg hm ⟨t,rfl⟩ hd
theorem mJ {x:Str}{z:Int}{t:Tok}{pos:Pos}(hg:Gl X x)(hm:X.mg x=some (.int z t))(hd:(x==("__debug__" : Str))=false:=by decide):PE X (.Name x pos) (tC (.int z)):=rH (v := .int z) hg hm ⟨t,rfl⟩ hd
end
theorem kc:∀{ss:List Str} {us:List Value},StrsAre us ss->Vals (ss.map V.str) us:=by
 intro ss us h
 induction h with
 | nil=>exact .nil
 | cons _ _ _ ih=>exact .cons ⟨_,rfl⟩ ih
theorem ij:∀{ss:List Str} {us:List Value},Vals (ss.map V.str) us->StrsAre us ss
 | [],_,.nil =>.nil
 | _::_,_,.cons ⟨_,e⟩ t=>by subst e;exact .cons _ _ (ij t)
section
variable {X:Cx}(K:Ja)
theorem sortedS (hK:X.K=K:=by rfl):bN X (.builtin "sorted") (fun xs H Q=>∃(p:Addr) (ss:List Str),xs=[.ref p]/\aM K H p (ss.map V.str)/\ss.length<64 /\
  ∀(ms:List Str) (q:Addr) (H':Hp),ms.Perm ss->PyProof.Rows.sortedS ms=true->gJ H q (.lst (ms.map V.str)) H'->Q (.ref q) H'):=by
 subst hK
 intro pins s σ H xs us Q I r h
 obtain⟨p,ss,rfl,hq,hl,q⟩:=h
 obtain⟨u,rfl,ru⟩:=vals1 r
 cases ru
 obtain⟨aA,rv,pl,hz⟩:=I.list hq
 have hn:aA.length=ss.length:=by have:=rv.length;rw[Je] at this;exact this.symm
 refine sorted_strs pl.isList (ij rv) (by omega) fun out ms a1 a2 a3 =>?_
 obtain⟨e,he⟩:=sortedAll_at s.heap aA out
 have hm:ms.length=ss.length:=a2.length_eq
 have hr:=kc a1
 refine⟨.ref (s.heap.objs.size+1),_,I.laid (a:=s.heap.objs.size+1) (o := .lst (ms.map V.str)) (t':=s.toks) (fun _ _=>sortedAll_old) (U1 _) ⟨?_,out.toList,e,hr,?_⟩,rfl,q ms _ _ a2 a3 ⟨I.bB.fresh (U1 _),rfl⟩⟩
 ·rw[Je];exact Jg (show ms.length<=64 by omega) (by decide)
 ·simpa [seqObj] using he
end
section
variable {X:Cx}
theorem Lb:fL X (compareOp .In) (fun x y H Q=>∃a b:Str,x = .str a/\y = .str b/\Q (.bl (Txt.contains b a)) H):=by
 intro pins s σ H x y v u Q I rx ry h
 obtain⟨a,b,rfl,rfl,q⟩:=h
 obtain⟨t,rfl⟩:=rx
 obtain⟨t',rfl⟩:=ry
 exact PySem.P.in_str ⟨.bl _,H,I,rfl,q⟩
end
section
variable {X:Cx}
def Lu (i j k:Nat)(ta:TA):TS:=fun D σ H=>ta σ H fun vs H1=>∃u v w,vs=[u,v,w]/\D.nx (((σ.set i (some u)).set j (some v)).set k (some w)) H1
theorem Ed {i j k:Nat}{x y z:Str}{a b c:Expr}{ta:TA}{px py pz pt pos:Pos}{kt k2 pt2}(hc:X.calm=true)(hN:X.N.Nodup)(hi:X.N[i]? = some x)(hj:X.N[j]? = some y)(hk:X.N[k]? = some z)(mL:i≠j)(VT:i≠k)(Vj:j≠k)
  (hx:X.env.scope.names.lookup x=some .local) (hy:X.env.scope.names.lookup y=some .local) (hz:X.env.scope.names.lookup z=some .local) (ha:PA X [a,b,c] ta)
  (hw:swappedStores [.Tuple [.Name x px,.Name y py,.Name z pz] kt pt] (.Tuple [a,b,c] k2 pt2) X.env=pure (some [x,y,z]))
  (hs:swapsWithSole [.Tuple [.Name x px,.Name y py,.Name z pz] kt pt] (.Tuple [a,b,c] k2 pt2) pos.line X.env=pure false:=by rfl) :
  PS X (.Assign [.Tuple [.Name x px,.Name y py,.Name z pz] kt pt] (.Tuple [a,b,c] k2 pt2) pos) (Lu i j k ta):=by
 intro pins s σ H D I h
 rw[exec_Assign_arm]
 refine wpAny_bind (wpAny_standAt ?_)
 rw[hs]
 refine wpAny_bind (wpAny_pure ?_)
 rw[if_neg (by decide)]
 refine wpAny_bind (Tuple_ (bG (ha s σ H _ I h) ?_))
 rintro us s1 ⟨vs,H1,I1,r1,v1,v2,v3,rfl,q1⟩
 cases r1 with
 | cons r1 t1=>cases t1 with
  | cons r2 t2=>cases t2 with
   | cons r3 t3=>
    cases t3
    rename_i u1 u2 u3
    refine wpAny_newObj_type ?_ (by show 3<=sizeLine;decide)
    have I2:Inv X pins σ H1 { s1 with heap:=s1.heap.push { cls := .type "tuple",data := .seq [u1,u2,u3].toArray } }:=I1.kept (t':=s1.toks) fun b o e=>Jb _ e
    rw[hw]
    refine wpAny_bind (wpAny_pure ?_)
    show wpAny (model X.prog X.w) X.A (do rule "assign.swapped-stores";let items <-unpackItems (.ref s1.heap.objs.size) 3 none;assignInOrder [fun v=>bindName X.env z v,fun v=>bindName X.env y v,fun v=>bindName X.env x v] items.reverse;pure Flow.next) _ _ _
    refine wpAny_bind (wpAny_rule (wpAny_bind (unpackItems_tuple (items := #[u1,u2,u3]) (I.ok.hd hc) (IsTup.new s1.heap _) fun h' lV =>?_)))
    have I3:=I2.kept (h':=h') (t':=s1.toks) fun b o e=>lV b o (Jk (Jf e)) e
    show wpAny _ _ (assignInOrder [fun v=>bindName X.env z v,fun v=>bindName X.env y v,fun v=>bindName X.env x v] [u3,u2,u1] >>= fun _=>pure Flow.next) _ _ _
    refine wpAny_bind (assignInOrder_cons (wpAny_bindName (ff I3 hN hk (.inl hz) r3 (fun s2 I4 =>?_) (.inr hz))))
    refine assignInOrder_cons (wpAny_bindName (ff I4 hN hj (.inl hy) r2 (fun s3 I5 =>?_) (.inr hy)))
    refine assignInOrder_cons (wpAny_bindName (ff I5 hN hi (.inl hx) r1 (fun s4 I6=>assignInOrder_nil (wpAny_pure ?_)) (.inr hx)))
    rw[List.set_comm _ _ (Ne.symm mL),List.set_comm _ _ (Ne.symm VT)] at I6
    rw[List.set_comm _ _ (Ne.symm Vj)] at I6
    exact⟨_,H1,I6,q1⟩
end
section
variable {X:Cx}
theorem mW:∀{xs:List V} {us:List Value} (j:Nat),Vals xs us->Vals (xs.eraseIdx j) (us.eraseIdx j)
 | _,_,_,.nil=>by simp;exact .nil
 | _,_,0,.cons _ t=>by simpa using t
 | _,_,j+1,.cons h t=>by simpa using .cons h (mW j t)
end
theorem PE.weak {X:Cx}{e:Expr}{t t':TE}(h:PE X e t)(w:∀ σ H Q,t' σ H Q->t σ H Q):PE X e t':=fun _ s σ H Q I q=>h s σ H Q I (w σ H Q q)
theorem PA.weak {X:Cx}{es:List Expr}{t t':TA}(h:PA X es t)(w:∀ σ H Q,t' σ H Q->t σ H Q):PA X es t':=fun _ _ s σ H Q I q=>h s σ H Q I (w σ H Q q)
noncomputable def newOf (H H':Hp):Hp:=fun a=>match H a with
 | none=>H' a
 | some _=>none
theorem eJ {H H':Hp}{a:Addr}(h:H a=none):newOf H H' a=H' a:=by unfold newOf;rw[h]
theorem gN {H H':Hp}{a:Addr}{o:HO}(h:newOf H H' a=some o):H a=none/\H' a=some o:=by
 unfold newOf at h
 cases e:H a with
 | none=>rw[e] at h;exact⟨rfl,h⟩
 | some u=>rw[e] at h;cases h
theorem tw {H H':Hp}:ak (newOf H H') H':=fun _ _ h=>(gN h).2
theorem jV {H H1 H2:Hp}(s:ak H1 H2):ak (newOf H H1) (newOf H H2):=fun a o h=>by
 rw[eJ (gN h).1];exact s a o (gN h).2
theorem vF {H H1 H2:Hp}(s:ak H H1):ak (newOf H1 H2) (newOf H H2):=fun a o h=>by
 rw[eJ (s.free (gN h).1)];exact(gN h).2
def uL (K:Ja)(d:PyData):TE:=fun _ H Q=>∀v H',ak H H'->Den K (newOf H H') d v->Q v H'
noncomputable def sW (K:Ja)(ds:List PyData):TA:=fun _ H Q=>∀vs H',ak H H'->au K (newOf H H') ds vs->Q vs H'
section
variable {X:Cx}{K:Ja}
theorem lit_int {i:Int}{j pos}:PE X (.Constant (.int i) j pos) (uL K (.int i)):=ah.weak fun σ H Q h=>h _ H (ak.refl _) (by unfold Den;rfl)
theorem lit_str {x:Str}{j pos}:PE X (.Constant (.str x) j pos) (uL K (.str x)):=aD.weak fun σ H Q h=>h _ H (ak.refl _) (by unfold Den;rfl)
theorem wU {b:Bool}{j pos}:PE X (.Constant (.bool b) j pos) (uL K (.bool b)):=fG.weak fun σ H Q h=>h _ H (ak.refl _) (by unfold Den;rfl)
theorem rJ {j pos}:PE X (.Constant .none j pos) (uL K .none):=cJ.weak fun σ H Q h=>h _ H (ak.refl _) (by unfold Den;rfl)
theorem lit_neg {i:Int}{j pos pos'}:PE X (.UnaryOp .USub (.Constant (.int i) j pos) pos') (uL K (.int (-i))):=(AI va ah).weak fun σ H Q h=>⟨i,rfl,h _ H (ak.refl _) (by unfold Den;rfl)⟩
theorem bU:PA X [] (sW K []):=ae.weak fun σ H Q h=>h [] H (ak.refl _) (by unfold au;rfl)
theorem ar {e:Expr}{es:List Expr}{d:PyData}{ds:List PyData}(h:PE X e (uL K d))(hs:PA X es (sW K ds))(kM:starEach (e::es) X.env=(false,eval e X.env)::starEach es X.env:=by rfl):PA X (e::es) (sW K (d::ds)):=
 (aa h hs kM).weak fun σ H Q q v H1 s1 d1 vs H2 s2 d2=>q (v::vs) H2 (s1.trans s2) (by
  unfold au
  exact⟨v,vs,rfl,d1.same (jV s2),d2.same (vF s1)⟩)
theorem qB {K:Ja}{H:Hp}:∀{ds:List PyData} {vs:List V},au K H ds vs->vs.length=ds.length
 | [],_,h=>by unfold au at h;subst h;rfl
 | d::ds,vs,h=>by
  unfold au at h
  obtain⟨v,r,rfl,h1,h2⟩:=h
  rw[J0,J0,qB h2]
theorem eU {es:List Expr}{ds:List PyData}{pos:Pos}(h:PA X es (sW K ds))(hl:ds.length<=1000:=by decide):PE X (.List es pos) (uL K (.list ds)):=
 (eY h).weak fun σ H Q q vs H1 s1 d1=>⟨Jg (by rw[qB d1];exact hl) (show 1000<=sizeLine by decide),fun p H' n=>q _ _ (s1.trans n.same) (by
  unfold Den
  exact⟨p,vs,rfl,aM.of (by rw[eJ (s1.free n.nn)];exact n.at),d1.same (jV n.same)⟩)⟩
theorem kd {es:List Expr}{ds:List PyData}{x1}{pos:Pos}(h:PA X es (sW K ds))(hl:ds.length<=1000:=by decide):PE X (.Tuple es x1 pos) (uL K (.tuple ds)):=
 (fN h).weak fun σ H Q q vs H1 s1 d1=>⟨Jg (by rw[qB d1];exact hl) (show 1000<=sizeLine by decide),fun p H' n=>q _ _ (s1.trans n.same) (by
  unfold Den
  exact⟨p,vs,rfl,cE.of (by rw[eJ (s1.free n.nn)];exact n.at),d1.same (jV n.same)⟩)⟩
end
section
variable {X:Cx}
theorem Ie:FJ X "str.upper" (fun x vs H Q=>∃a,x = .str a/\vs=[]/\(∀c∈a.cps.toList,c<128)/\a.length<=1000000/\Q (.str ⟨a.cps.map up1⟩) H):=by
 intro pins s σ H x vs v us Q I rx rv h
 obtain⟨a,rfl,rfl,ha,hz,q⟩:=h
 obtain⟨t,rfl⟩:=rx
 cases rv
 refine SCL.upper (by omega) fun _=>⟨.str _,H,I.tok _,⟨_,rfl⟩,?_⟩
 rw[upper_ascii ha]
 exact q
end
theorem vO {K:Ja}{a:Addr}{aA:List Value}{n:Nat}{sl:Array (Option Value)}{xs:List V}(h:K.lookup a=some ⟨.type "tuple",none,.seq aA.toArray n,sl⟩)(hv:Vals xs aA)(hz:xs.length<=1000)(H:Hp):cE K H a xs:=
 .inr ⟨_,aA.toArray,n,h,rfl,rfl,rfl,Jg (by rw[Jr,<-hv.length];exact hz) (show 1000<=sizeLine by decide),by simpa using hv⟩
theorem rF {X:Cx}{k:Nat}{x:Str}{ps:List Str}{sp:Sp}{p pos:Pos}(F:Fn X.prog X.w X.K X.mg X.base k x ps sp)(hr:dw k X.A)(hg:Gl X x)(o8:(x==("__debug__" : Str))=false:=by decide):
  PE X (.Call (.Name x p) [] [] pos) (sV sp [] E0 Ae):=by
 obtain⟨f,fd,a,b,c,d⟩:=F.ex
 exact B1 a hr hg d c b .nil FU o8
noncomputable abbrev dZ:List Value:=[.type "ValueError",.type "Exception",.type "BaseException",.type "object"]
structure mq (K:Frag)(C:Addr)(f:Str):Prop where
 sa:findIn K (.ref C) "__setattr__" = some (some (.builtin "object.__setattr__"))
 na:findIn K (.ref C) f=some none
 mo:mroIn K C (.type "object")=some true
 cl:∃cd D,clsIn K C=some cd/\cd.mro = .ref C :: .ref D::dZ/\cd.hasDict=true
def Raw (o:Obj):Prop:=∃t,o.data = .fields #[.ref t,.none,.none,.none,.bool false,.none]
theorem Raw.nc {o:Obj}(h:Raw o):notCls o=true:=by
 obtain⟨_,_,dt,_⟩:=o
 obtain⟨t,h⟩:=h
 cases h;rfl
noncomputable def tU (e C:Addr):HO := .ext fun h=>∃o,h.get? e=some o/\o.cls = .ref C/\o.dict=none/\Raw o
noncomputable def Aa (e C dx:Addr):HO := .ext fun h=>∃o,h.get? e=some o/\o.cls = .ref C/\o.dict=some dx/\Raw o
section
variable {prog:Program}{w:World}{A:Around}{K:Frag}{C e:Addr}{s:Shared}{E:Value->Shared->Prop}{f:Str}{v:Value}
theorem zI {o:Obj}{Q:Unit->Shared->Prop}(X:K.In s.heap)(O:mq K C f)(hx:s.heap.get? e=some o)(hc:o.cls = .ref C)(hd:o.dict=none)(hn:notCls o=true)
  (k:∀h' tk,h'.get? e=some { o with dict:=some s.heap.objs.size } -> h'.Ns1 s.heap.objs.size (fun y=>if y=f then some v else none)->(∀b ob,b≠e->s.heap.get? b=some ob->h'.get? b=some ob)->Q () { s with heap:=h',toks:=tk }) :
  wpAny (model prog w) A (setAttr (.ref e) f v) Q E s:=by
 have J:InstAt s.heap e o C none:=⟨hx,hc,hn,by rw[hd];trivial⟩
 refine aj.el (O.cl) _ ?_
 rintro cd D c1 c2 c3
 have SF:=PySem.F.store_object
 have top:Looks (model prog w) s.heap (isInstance (.ref e) (.type "object")) true:=J.type.andThen (looks_mroIn X O.mo)
 have O0:Looks (model prog w) s.heap (mroOf (.ref C)) cd.mro:=(looks_clsIn X c1).andThen .now
 refine set_plain X J O.sa ?_
 refine codeAny_call_builtin SF.slot.plain SF.entry ?_
 refine @check_slot (model prog w) _ _ { s with toks:=s.toks+1 } "object.__setattr__" "object" "__setattr__" (.ref e) [.str f s.toks,v] [] _ SF.kind SF.split top (SF.args (.ref e) (.str f s.toks) v) ?_
 rw[osa_eq,refuse_eq]
 refine wpAny_bind (wpAny_bind (J.type.here (s:={ s with toks:=s.toks+1 }) (wpAny_bind (O0.here (s:={ s with toks:=s.toks+1 }) ?_))))
 rw[c2,refuseLoop_ref,refuseLoop_ref,PySem.F.store_ValueError.passes]
 refine wpAny_pure (wpAny_bind (J.type.here (s:={ s with toks:=s.toks+1 }) ?_))
 refine wpAny_bind ((looks_findIn X O.na).here (s:={ s with toks:=s.toks+1 }) ?_)
 refine wpAny_bind (wpAny_pure ?_)
 show wpAny _ _ (storeInOwnDict (.ref e) (.ref C) (.str f s.toks) f v false) _ _ _
 obtain⟨oc,od,odt,yo⟩:=o
 dsimp only at hc hd
 subst hc hd
 have mz:=(Heap.get?_some_iff.mp hx).2
 have oG:e≠s.heap.objs.size:=Jk (Jf hx)
 refine wpAny_bind (wpAny_pure (wpAny_bind ?_))
 show wpAny _ _ (instanceDict e true) _ _ _
 unfold instanceDict
 refine wpAny_bind (wpAny_loadPart hx ?_)
 refine wpAny_bind ((looks_clsIn X c1).here (s:={ s with toks:=s.toks+1 }) ?_)
 rw[c3]
 dsimp only
 rw[if_neg (by decide),if_neg (by simp[typeHasDict])]
 split
 ·rename_i c
  exact absurd hn (by simp[notCls])
 have R3:(s.heap.push { cls := .type "dict",data := .dict #[] }).get? e=some ⟨.ref C,none,odt,yo⟩:=Jb _ hx
 refine wpAny_bind (wpAny_alloc' ?_)
 refine wpAny_bind (wpAny_update' R3 ?_)
 refine wpAny_pure ?_
 obtain⟨G,hG⟩:∃G,G=(s.heap.push { cls := .type "dict",data := .dict #[] }).update e fun o=>{ cls:=o.cls,dict:=some s.heap.objs.size,data:=o.data,slots:=o.slots }:=⟨_,rfl⟩
 have gd:G.get? s.heap.objs.size=some { cls := .type "dict",data := .dict #[] }:=by
  rw[hG]
  exact(Heap.get?_update_ne _ _ _ _ oG.symm).trans (Heap.get?_push_at rfl rfl)
 have ge:G.get? e=some ⟨.ref C,some s.heap.objs.size,odt,yo⟩:=by
  rw[hG]
  refine Jz _ R3 ?_
  cases odt<;>first|rfl|exact mz
 have go:∀b ob,b≠e->s.heap.get? b=some ob->G.get? b=some ob:=fun b ob nb q=>by
  rw[hG]
  exact(Heap.get?_update_ne _ _ _ _ nb).trans (Jb _ q)
 have Vp:G.Ns s.heap.objs.size (fun _=>none):=⟨_,#[],_,gd,rfl,(fun a ha=>absurd ha (by simp)),fun _=>rfl⟩
 rw[<-hG]
 show wpAny _ _ (storeInDict s.heap.objs.size (.str f s.toks) f v) _ _ _
 unfold storeInDict newKeyGuard
 refine wpAny_bind (wpAny_pure (wpAny_bind (wpAny_nsSet1 (Heap.Ns1.of_empty Vp) fun h2 ns2 sb =>?_)))
 refine aj.el (ns2.count (Within.cons f v Within.nil)) _ ?_
 rintro oD eD pD hoD dD cD
 refine wpAny_bind (wpAny_lookBehind hoD ?_ ?_)
 ·rw[dD]
  refine pastItsLine_dict (Jg cD ?_)
  rw[J0,List.length_nil,sizeLine_eq]
  omega
 exact wpAny_pure (k h2 _ ((sb.2 e oG).trans ge) ns2 fun b ob nb q=>(sb.2 b (Jk (Jf q))).trans (go b ob nb q))
theorem A7 {o od:Obj}{dx:Addr}{Q:Value->Shared->Prop}(X:K.In s.heap)(O:iM K C)(S:mq K C f)(hx:s.heap.get? e=some o)(hc:o.cls = .ref C)(hd:o.dict=some dx)(hn:notCls o=true)(ho:s.heap.get? dx=some od)
  (hl:lookIn f od=some (some v)) (hv:handedIn v=true) (k:Q v { s with toks:=s.toks+1 }):wpAny (model prog w) A (getAttr (.ref e) f true) Q E s:=by
 have J:InstAt s.heap e o C (some od):=⟨hx,hc,hn,by rw[hd];exact ho⟩
 have p:ExcAt e C s.heap:=⟨o,hx,hc⟩
 refine aj.el (S.cl) _ ?_
 rintro cd D c1 c2 c3
 have fo:findObj K C (some od) f=some (.value v):=by
  unfold findObj PySem.W.ownOf
  simp only[c1,S.na,Option.bind_some,c3,if_true,hl]
 obtain⟨hh,g,dr,t,os⟩:=s
 have T0:=gQ (M:=model prog w) p
 have T1:=looks_findIn (M:=model prog w) X O.ga
 have T2:=looks_findIn (M:=model prog w) X O.gt
 have T3:=looks_find (M:=model prog w) X J fo
 have f3:=F.attr_ValueError.ga.bind (.ref e)
 unfold getAttr getAttrBy
 refine wpAny_bind (wpAny_mkText (wpAny_holding ?_))
 refine wpAny_bind (T0.at (wpAny_bind (T1.at ?_)))
 show wpAny _ _ (getAttrByItsOwn _ _ _ _ _ _) _ _ _
 unfold getAttrByItsOwn
 refine wpAny_bind ?_
 show wpAny _ _ (typeLookup (.ref C) "__getattr__") _ _ _
 refine T2.at (wpAny_bind (wpAny_attempt (wpAny_holding ?_)))
 show wpAny _ _ (boundAndCalled _ _ _) _ _ _
 unfold boundAndCalled
 rw[f3]
 refine wpAny_bind (wpAny_pure (wpAny_call (codeAny_call_builtin F.attr_ValueError.ga.plain F.entry_bexc_ga (qd (s:=⟨hh,g,dr,t+1,os⟩) X O p ?_))))
 unfold Builtin.«object.__getattribute__»
 refine wpAny_bind (wpAny_pure (wpAny_bind (wpAny_pure (wpAny_bind (T0.at (wpAny_bind (T3.at ?_)))))))
 exact wpAny_pure (handed_on hv k)
end
section
variable {prog:Program}{w:World}{A:Around}{E:Value->Shared->Prop}{h0:Heap}{g0:Array GenState}{d0:Drawn}{t0:Nat}{os0:OsState}{nm qn:Str}{C N fi:Addr}{bs up tail:List Value}{hdct:Bool}{sn:List Str}{sub:List Value}{ab:Bool}
 {col:Option Bool} {dd:Option Addr} {k0 k1 k2 k3 k5:Option Value} {B newId Cf:String}
theorem zS (FB:ExcBaseFacts B newId Cf tail)(TL:OwnTail h0 tail up){vs:List Value}{oi:Obj}{Q:Fin->Shared->Prop}
  (wN:h0.get? C=some (excClassObj nm qn C N bs up hdct sn sub ab col dd k0 k1 k2 k3 k5 newId)) (iK:∀h1:Heap,(∀b o,h0.get? b=some o->h1.get? b=some o)->Looks (model prog w) h1 (typeLookup (.ref C) "__init__") (some (.ref fi))) (O6:h0.get? fi=some oi) (OD:oi.cls = .type "function") (fit:vs.length<=sizeLine)
  (run:∀h' e,Heap.MadeExcOf h0 h' e (.ref C) vs->wpAny (model prog w) A (call (.ref fi) (.ref e::vs)) (fun r s'=>r = .none/\Q (.done (.ret (.ref e))) s') E ⟨h',g0,d0,t0,os0⟩) :
  wpAny (model prog w) A (Builtin.«type.__call__» ⟨.ref C::vs,[]⟩) Q E ⟨h0,g0,d0,t0,os0⟩:=by
 repeat (first
  | with_reducible refine wpAny_loadPart_at wN ?_
  | with_reducible refine wpAny_madeBy_exc wN ?_
  | wp_step)
 refine codeAny_call_builtin_code (Code.quiet_builtin _ FB.quiet) ?_
 refine wpAny_check_new_subT FB TL wN ?_
 refine codeAny_exc_new_subT FB TL wN ?_ fit
 show wpAny _ _ _ _ _ _
 obtain⟨H1,e1⟩:∃H1,H1=(h0.push { cls := .type "tuple",data := .seq vs.toArray }).push { cls := .ref C,data := .fields #[.ref h0.objs.size,.none,.none,.none,.bool false,.none] }:=⟨_,rfl⟩
 have kp:∀b o,h0.get? b=some o->H1.get? b=some o:=fun b o z=>by
  rw[e1]
  exact Jb _ (Jb _ z)
 have me:H1.get? (h0.objs.size+1)=some { cls := .ref C,data := .fields #[.ref h0.objs.size,.none,.none,.none,.bool false,.none] }:=by
  rw[e1]
  heap_get
 have mt:H1.get? h0.objs.size=some { cls := .type "tuple",data := .seq vs.toArray }:=by
  rw[e1]
  exact Jb _ (Heap.get?_push_at rfl rfl)
 rw[<-e1]
 have Og:=kp _ _ wN
 have self:(Value.ref C::up).contains (.ref C)=true:=by simp
 unfold isInstance
 repeat (first
  | with_reducible refine wpAny_loadPart_at me ?_
  | (with_reducible refine wpAny_isSubtype_exc Og ?_;rw[self])
  | wp_step)
 show wpAny _ _ (typeLookup (.ref C) _) _ _ _
 refine(iK H1 kp).at ?_
 refine wpAny_holding (wpAny_bind ?_)
 unfold bindSpecial
 refine wpAny_bind (wpAny_typeOf (T := "function") ⟨_,kp _ _ O6,OD⟩ ?_)
 rw[if_pos (by decide)]
 have made:Heap.MadeExcOf h0 H1 (h0.objs.size+1) (.ref C) vs:=⟨kp,Heap.get?_none_of_le (U1 _),h0.objs.size,me,Heap.get?_none_of_le (Jd _),mt⟩
 refine wpAny_pure (wpAny_bind (wpAny_mono (run H1 _ made) (fun r s' hr =>?_) fun _ _ x=>x))
 obtain⟨rfl,q⟩:=hr
 wp_walk
 exact q
theorem MD (FB:ExcBaseFacts B newId Cf tail)(TL:OwnTail h0 tail up){vs:List Value}{oi:Obj}{Q:Value->Shared->Prop}
  (wN:h0.get? C=some (excClassObj nm qn C N bs up hdct sn sub ab col dd k0 k1 k2 k3 k5 newId)) (iK:∀h1:Heap,(∀b o,h0.get? b=some o->h1.get? b=some o)->Looks (model prog w) h1 (typeLookup (.ref C) "__init__") (some (.ref fi))) (O6:h0.get? fi=some oi) (OD:oi.cls = .type "function") (fit:vs.length<=sizeLine)
  (run:∀h' e,Heap.MadeExcOf h0 h' e (.ref C) vs->wpAny (model prog w) (A.under (.builtin "type.__call__" ⟨.ref C::vs,[]⟩)) (call (.ref fi) (.ref e::vs)) (fun r s'=>r = .none/\Q (.ref e) s') E ⟨h',g0,d0,t0,os0⟩) :
  wpAny (model prog w) A (call (.ref C) vs) Q E ⟨h0,g0,d0,t0,os0⟩:=by
 have b1:=tc_lookup
 have b2:=tc_bind (.ref C)
 have ty:(⟨h0,g0,d0,t0,os0⟩:Shared).TypeIs (.ref C) "type":=⟨_,wN,rfl⟩
 refine wpAny_call (codeAny_of_tree ?_)
 show wpAny _ _ (callAny (.ref C) _) _ _ _
 repeat (any_goals (first
  | assumption
  | with_reducible refine wpAny_loadPart_at wN ?_
  | wp_step))
 refine⟨rfl,codeAny_call_builtin_at (Code.quiet_builtin _ (by decide +kernel)) entry_typeCall ?_⟩
 exact wpAny_check_type_call_sub wN (zS FB TL wN iK O6 OD fit fun h' e m=>run h' e m)
end
section
variable {X:Cx}{pins:List (Addr×Obj)}{σ:St}{H:Hp}{s:Shared}{e C:Addr}
theorem E9 {P:Program}{w:World}{H:Hp}{h:Heap}{o:Obj}(h1:h.get? e=some o)(h2:o.cls = .ref C)(h3:o.dict=none)(h4:Raw o):bt P w H h e (tU e C):=
 ⟨⟨o,h1,h2,h3,h4⟩,⟨o,h1⟩,fun a b ⟨o,e1,r⟩ k=>⟨o,k _ e1,r⟩⟩
theorem DR {P:Program}{w:World}{H:Hp}{h:Heap}{o:Obj}{dx:Addr}(h1:h.get? e=some o)(h2:o.cls = .ref C)(h3:o.dict=some dx)(h4:Raw o):bt P w H h e (Aa e C dx):=
 ⟨⟨o,h1,h2,h3,h4⟩,⟨o,h1⟩,fun a b ⟨o,e1,r⟩ k=>⟨o,k _ e1,r⟩⟩
theorem Inv.noObj (I:Inv X pins σ H s)(h:s.heap.get? e=none):H e=none:=by
 cases z:H e with
 | none=>rfl
 | some o=>obtain⟨q,hq⟩:=(I.bB e o z).ex;rw[hq] at h;cases h
theorem Inv.La {h':Heap}{us:List Value}{tk:Nat}(I:Inv X pins σ H s)(m:Heap.MadeExcOf s.heap h' e (.ref C) us)(hex:X.ex=[]):Inv X pins σ (upd H e (tU e C)) { s with heap:=h',toks:=tk }:=by
 obtain⟨k,ne,t0,me,nt,mt⟩:=m
 have I2:Inv X pins σ H { s with heap:=h',toks:=tk }:=I.kept k
 have hs:∀b o,s.heap.get? b=some o->b≠e:=fun b o q z=>by rw[z,ne] at q;cases q
 refine I2.vq (I.noObj ne) (fun z =>?_) (fun x c q =>?_) (fun p hp =>?_) (fun b u q =>?_) (E9 me rfl rfl ⟨_,rfl⟩)
 ·obtain⟨m,⟨oL,_,_,q,_⟩,_⟩:=I.loc
  exact hs _ _ q z.symm
 ·obtain⟨v,o,e1,_⟩:=I.cell x c q
  exact hs _ _ e1
 ·exact hs _ _ (I.pin p hp).1
 ·obtain⟨o',q'⟩:=I.base.there b u q (by rw[hex];exact fun z=>nomatch z)
  exact hs _ _ q'
structure Ld (K:Frag)(C fi:Addr):Prop where
 cl:∃nm qn N bs D hdct sn sub ab col dd k0 k1 k2 k3 k5,K.lookup C=some (excClassObj nm qn C N bs (.ref D::dZ) hdct sn sub ab col dd k0 k1 k2 k3 k5 "ValueError.__new__")/\∀h:Heap,K.In h->OwnTail h dZ (.ref D::dZ)
 ini:findIn K (.ref C) "__init__" = some (some (.ref fi))
 fn:∃oi:Obj,K.lookup fi=some oi/\oi.cls = .type "function"
 kp:keepIn K (.ref C)=true
def AQ (C:Addr)(sp:Sp)(t:TA):TE:=fun σ H Q=>t σ H fun vs H1=>vs.length<=1000/\∀e,H1 e=none->sp (.ref e::vs) (upd H1 e (tU e C)) (fun v H2=>v = .non/\Q (.ref e) H2) E0
theorem yw {k:Nat}{fi:Addr}{fd:FuncData}{ps:List Str}{sp:Sp}{Q:VK}{us:List Value}{vs:List V}(M:Ld X.K C fi)(F:bC X.prog X.w X.K X.mg X.base gG k fi fd ps sp)(hr:dw (k+1) X.A)(hb:Binds X.K fd ps [])(hex:X.ex=[])
  (I:Inv X pins σ H s) (r:Vals vs us) (hl:vs.length<=1000) (h:∀e,H e=none->sp (.ref e::vs) (upd H e (tU e C)) (fun v H2=>v = .non/\Q (.ref e) H2) E0):wpAny (model X.prog X.w) X.A (call (.ref C) us) (EP X pins σ Q) X.xe s:=by
 refine aj.el (M.cl) _ ?_
 rintro nm qn N bs D hdct sn sub ab col dd k0 k1 k2 k3 k5 lk TL
 refine aj.el (M.fn) _ ?_
 rintro oi l2 ft
 have wK:=I.iA
 refine MD (h0:=s.heap) (g0:=s.gens) (d0:=s.drawn) (t0:=s.toks) (os0:=s.os) PySem.F.excBase_ValueError (TL _ wK) (wK _ _ lk) (fun h1 kp=>looks_findIn (fun a o z=>kp a o (wK a o z)) M.ini) (wK _ _ l2) ft (by rw[<-r.length];exact Jg hl (by decide)) fun h' e m =>?_
 have I2:Inv X pins σ (upd H e (tU e C)) { s with heap:=h',toks:=s.toks }:=I.La m hex
 have hq:=h e (I.noObj m.2)
 have r2:Vals (V.ref e::vs) (Value.ref e::us) := .cons rfl r
 have hlen:(Value.ref e::us).length=ps.length:=by rw[<-r2.length];exact F.len _ _ _ _ hq
 have JD:=hb { s with heap:=h',toks:=s.toks } (Value.ref e::us) I2.iA (by rw[Yg];exact hlen)
 rw[Yg] at JD
 refine wpAny_call (codeAny_mono (F.run _ X.stack { s with heap:=h',toks:=s.toks } _ ⟨Value.ref e::us,[]⟩ (Value.ref e::us) _ _ E0 (hr.make C us []) (I2.Eo.make C us []) JD r2 hq) fun rr s' hq' =>?_)
 cases rr with
 | error x=>exact hq'.elim
 | ok fl=>
  cases fl with
  | ret u=>
   obtain⟨v,H',I3,rv,ev,q3⟩:=I2.after hq'
   subst ev
   exact⟨rv,⟨V.ref e,H',I3,rfl,q3⟩⟩
  | next=>exact hq'.elim
  | brk=>exact hq'.elim
  | cont=>exact hq'.elim
theorem Ce {k:Nat}{fi:Addr}{fd:FuncData}{ps:List Str}{sp:Sp}{x:Str}{p pos:Pos}{a:Expr}{as:List Expr}{t:TA}(M:Ld X.K C fi)(F:bC X.prog X.w X.K X.mg X.base gG k fi fd ps sp)(hr:dw (k+1) X.A)(hg:Gl X x)(hm:X.mg x=some (.ref C))
  (hb:Binds X.K fd ps []) (ha:PA X (a::as) t) (hex:X.ex=[]:=by rfl) (o8:(x==("__debug__" : Str))=false:=by decide) (he:starEach (a::as) X.env=(false,eval a X.env)::starEach as X.env:=by rfl) (rD:(backTo pos (starEach as X.env)).any (·.1)=false:=by rfl) :
  PE X (.Call (.Name x p) (a::as) [] pos) (AQ C sp t):=by
 intro pins s σ H Q I h
 refine wpAny_Call_Name_kw (ik I hg hm ?_ o8)
 refine PySem.W.callWith_K (h₀:=X.base) I.ok.mod.wK M.kp (bG (ha s σ H _ I h) fun us s1 hz_=>aj.el hz_ _ fun vs H1 I1 r q=>⟨I1.iA,?_⟩) he rD
 exact yw M F hr hb hex I1 r q.1 q.2
def Lq (K:Frag)(to tv:TE)(f:Str):TS:=fun D σ H=>tv σ H fun v H1=>to σ H1 fun x H2=>∃e C,x = .ref e/\H2 e=some (tU e C)/\mq K C f/\∀dx,H2 dx=none->dx≠e->D.nx σ (upd (upd H2 e (Aa e C dx)) dx (.xd [(f,v)]))
theorem Er {o value:Expr}{f:Str}{to tv:TE}{pos pos':Pos}(ho:PE X o to)(hv:PE X value tv)(hs:swapsWith value (some (.Attribute o f pos')) pos.line X.env=pure false):PS X (.Assign [.Attribute o f pos'] value pos) (Lq X.K to tv f):=by
 intro pins s σ H D I h
 refine plainObj_wpAny_Assign_Attribute (bG (hv s σ H _ I h) fun u s1 ⟨v,H1,I1,ru,q⟩=>bG (ho s1 σ H1 _ I1 q) fun ov s2 ⟨x,H2,I2,rx,e,C,ex,ee,S,q2⟩=>?_) hs
 subst ex
 obtain rfl:ov=Value.ref e:=rx
 obtain⟨ob,b1,b2,b3,b4⟩:=(show bt X.prog X.w H2 s2.heap e (tU e C) from I2.bB e _ ee).1
 have oG:e≠s2.heap.objs.size:=Jk (Jf b1)
 refine zI I2.iA S b1 b2 b3 b4.nc fun h' tk a1 a2 a3 =>?_
 have I3:Inv X pins σ (upd H2 e (Aa e C s2.heap.objs.size)) { s2 with heap:=h',toks:=tk }:=I2.write (x:=e) (e:=e) (by rw[ee];exact True.intro) (.inl rfl) a3 ⟨_,a1⟩ (DR a1 b2 rfl b4)
 have hd:H2 s2.heap.objs.size=none:=I2.bB.fresh (Jd _)
 have fp:=I2.eC (H':=H2) (Jd _) hd
 refine⟨σ,_,?_,q2 _ hd oG.symm⟩
 refine I3.vq (by rw[ao oG.symm];exact hd) fp.2.1 fp.2.2.2.2.1 fp.2.2.2.2.2 (fun b u q z =>?_) ⟨_,a2,fun g =>?_⟩
 ·have:=Jf q
  rw[z] at this
  exact absurd (Jn this I2.sz) (Uj _)
 ·show kC (Y8 g [(f,v)]) (if g=f then some u else none)
  by_cases z:g=f
  ·rw[if_pos z,z,List.lookup_cons_self];exact ru
  ·rw[if_neg z]
   have:Y8 g [(f,v)]=none:=by
    rw[Uo]
    have:(g==f)=false:=by simpa using z
    rw[this];rfl
   rw[this];trivial
end
section
variable {K:Frag}{C D N:Addr}{nm qn:Str}{bs up:List Value}{hdct:Bool}{sn:List Str}{sub:List Value}{ab:Bool}{col:Option Bool}{dd:Option Addr}{k0 k1 k2 k3 k5:Option Value}
theorem zf (lk:K.lookup C=some (excClassObj nm qn C N bs up hdct sn sub ab col dd k0 k1 k2 k3 k5 "ValueError.__new__"))(made:excIn K C dZ "ValueError.__new__" = true):nsOkIn K N=true/\nsIn K N "__init__" = some none:=by
 have h:(C==C && "ValueError.__new__" == "ValueError.__new__" && !false&&tailIn K dZ up&&nsOkIn K N&&nsIn K N "__init__" == some none)=true:=by
  unfold excIn at made
  rw[lk] at made
  exact made
 have h1:=Bool.and_eq_true_iff.mp h
 exact⟨(Bool.and_eq_true_iff.mp h1.1).2,beq_iff_eq.mp h1.2⟩
theorem Ci (lk:K.lookup C=some (excClassObj nm qn C N bs dZ hdct sn sub ab col dd k0 k1 k2 k3 k5 "ValueError.__new__"))(made:excIn K C dZ "ValueError.__new__" = true)(h:Heap)(wK:K.In h):OwnTail h dZ (.ref C::dZ):=by
 obtain⟨a,b⟩:=zf lk made
 exact .own (wK _ _ lk) (.of_isNs (isNs_of_in wK a)) (nsMap_none_of_in wK a b) .base
theorem CL {f:Str}(lk:K.lookup C=some (excClassObj nm qn C N bs (.ref D::dZ) true sn sub ab col dd k0 k1 k2 k3 k5 "ValueError.__new__"))(sa:findIn K (.ref C) "__setattr__" = some (some (.builtin "object.__setattr__")))(na:findIn K (.ref C) f=some none)
  (mo:mroIn K C (.type "object")=some true):mq K C f:=by
 refine⟨sa,na,mo,⟨{ name:=nm,bases:=bs,mro := .ref C :: .ref D::dZ,ns:=N,qualname:=qn,hasDict:=true,slotNames:=sn,subclasses:=sub,abstract:=ab,collection:=col,hasDel:=false },D,?_,rfl,rfl⟩⟩
 unfold clsIn
 rw[lk]
end
structure xr (K:Ja)(P:Program)(w:World)(a:Addr)(es:Array DictEntry)(n:Nat)(kvs:List (Str×Value)):Prop where
 l:K.lookup a=some ⟨.type "dict",none,.dict es n,#[]⟩
 k:PySem.W.KeysLit w.params es.toList
 p:Pairs (PySem.strKind P w) es.toList kvs
 nd:(kvs.map (·.1)).Nodup
 ns:(a==sysModules)=false
theorem xr.at {K:Ja}{P:Program}{w:World}{a:Addr}{es:Array DictEntry}{n:Nat}{kvs:List (Str×Value)}{h:Heap}(D:xr K P w a es n kvs)(X:K.In h):h.DictAt (PySem.strKind P w) a kvs n:=
 ⟨_,es,X _ _ D.l,⟨rfl,rfl,rfl⟩,rfl,fun e he=>by
  obtain⟨x,t,e1,e2⟩:=D.k.all e (Array.mem_toList_iff.mpr he)
  exact⟨x,by rw[e1];exact strKind_is P w x t,e2⟩,D.p,D.nd⟩
structure sG (h:Heap)(S it d:Addr)(i n ep:Nat):Prop where
 ex:∃(x0:Value) (f:Bool) (ok ov:Value),h.get? it=some { cls := .type "dict_itemiterator",dict:=none,data := .fields #[x0,.bool f,.ref d,.int i 0,.int n 0,.int ep 0,ok,ov],slots := #[] } /\ (x0 = .none∨∃(a:Addr) (oa:Obj),x0=rawInt a/\h.get? a=some oa/\a≠it/\a≠S)
section
variable {prog:Program}{w:World}{K:Type}[DecidableEq K]{knd:KeyKind prog w K}{A:Around}{E:Value->Shared->Prop}{s:Shared}
theorem y7 {S it d:Addr}{i n ep:Nat}{key val:Value}{Q:Value->Shared->Prop}(st:sG s.heap S it d i n ep)(hS:S<s.heap.objs.size)
  (q:∀h',sG h' S it d i n ep->h'.get? s.heap.objs.size=some { cls := .type "tuple",data := .seq #[key,val] } -> h'.objs.size=s.heap.objs.size+1->(∀b o,b≠it->s.heap.get? b=some o->h'.get? b=some o)->Q (.ref s.heap.objs.size) { s with heap:=h' }) :
  wpAny (model prog w) A (Builtin.Dict_items.pairFromOwner (.ref it) 6 key val) Q E s:=by
 obtain⟨⟨x0,f,ok,ov,e,C7⟩⟩:=st
 have low:it<s.heap.objs.size:=Jf e
 unfold Builtin.Dict_items.pairFromOwner
 refine wpAny_bind (wpAny_newTuple ?_)
 obtain⟨h2,eh2⟩:∃h2,h2=s.heap.push { cls := .type "tuple",data := .seq #[key,val] }:=⟨_,rfl⟩
 have t2:h2.get? s.heap.objs.size=some { cls := .type "tuple",data := .seq #[key,val] }:=by rw[eh2];exact Ji _ rfl
 have z2:h2.objs.size=s.heap.objs.size+1:=by rw[eh2,J2]
 have k2:∀b o,s.heap.get? b=some o->h2.get? b=some o:=fun b o x=>by rw[eh2];exact Jb _ x
 have e2:=k2 _ _ e
 rw[<-eh2]
 clear eh2
 refine wpAny_bind ?_
 unfold Builtin.Dict_items.ownedTupleIsFree
 rcases C7 with rfl|⟨a,oa,rfl,ha,na,nS⟩
 ·refine wpAny_bind (wpAny_field (s:={ s with heap:=h2 }) e2 rfl (x := .none) rfl (wpAny_pure ?_))
  simp only[if_true]
  refine wpAny_bind (wpAny_field (s:={ s with heap:=h2 }) e2 rfl (x:=ok) rfl (wpAny_bind (wpAny_field (s:={ s with heap:=h2 }) e2 rfl (x:=ov) rfl ?_)))
  refine wpAny_bind (wpAny_setField_rec (s:={ s with heap:=h2 }) e2 (by simp) fun h3 e3 s3=>wpAny_bind (wpAny_setField_rec (s:={ s with heap:=h3 }) e3 (by simp) fun h4 e4 s4=>wpAny_bind (wpAny_setField_rec (s:={ s with heap:=h4 }) e4 (by simp) fun h5 e5 s5=>wpAny_bind (wpAny_setField_rec (s:={ s with heap:=h5 }) e5 (by simp) fun h6 e6 s6 =>?_))))
  have kk:∀b o,b≠it->h2.get? b=some o->h6.get? b=some o:=fun b o nb x=>s6.extBut b o nb (s5.extBut b o nb (s4.extBut b o nb (s3.extBut b o nb x)))
  have t6:=kk _ _ (Uk low) t2
  exact wpAny_bind (wpAny_letGo (wpAny_pure (q h6 ⟨_,_,_,_,e6,.inr ⟨_,_,rfl,t6,Uk low,Uk hS⟩⟩ t6 (by rw[s6.1,s5.1,s4.1,s3.1];exact z2) fun b o nb x=>kk b o nb (k2 b o x))))
 ·refine wpAny_bind (wpAny_field (s:={ s with heap:=h2 }) e2 rfl (x:=rawInt a) rfl ?_)
  show wpAny _ _ (loadIfAlive ((a:Int).toNat) >>= _) _ _ _
  rw[Y1]
  refine wpAny_bind (PySem.W.kdx_alive (k2 _ _ ha) ?_)
  simp only[Option.isNone_some,U2,if_false]
  refine wpAny_bind (wpAny_field (s:={ s with heap:=h2 }) e2 rfl (x := .bool f) rfl ?_)
  cases f
  ·refine wpAny_bind (wpAny_setField_rec (s:={ s with heap:=h2 }) e2 (by simp) fun h3 e3 s3=>wpAny_pure ?_)
   simp only[U2,if_false]
   exact wpAny_pure (q h3 ⟨_,_,_,_,e3,.inr ⟨a,oa,rfl,s3.extBut _ _ na (k2 _ _ ha),na,nS⟩⟩ (s3.extBut _ _ (Uk low) t2) (by rw[s3.1];exact z2) fun b o nb x=>s3.extBut b o nb (k2 b o x))
  ·refine wpAny_pure ?_
   simp only[U2,if_false]
   exact wpAny_pure (q h2 ⟨_,_,_,_,e2,.inr ⟨a,oa,rfl,k2 _ _ ha,na,nS⟩⟩ t2 z2 fun b o nb x=>k2 b o x)
theorem uY {S it d:Addr}{i ep:Nat}{kvs:List (K×Value)}{k:K}{v:Value}{Q:Option Value->Shared->Prop}(hit:sG s.heap S it d i kvs.length ep)(hS:S<s.heap.objs.size)
  (hm:s.heap.DictAt knd d kvs ep) (hx:kvs[i]? = some (k,v))
  (hQ:∀key h',knd.is k key=true->sG h' S it d (i+1) kvs.length ep->h'.get? s.heap.objs.size=some { cls := .type "tuple",data := .seq #[key,v] } -> h'.objs.size=s.heap.objs.size+1 ->
   (∀b o,b≠it->s.heap.get? b=some o->h'.get? b=some o)->Q (some (.ref s.heap.objs.size)) { s with heap:=h' }) :
  wpAny (model prog w) A (pyNext (.ref it)) Q E s:=by
 obtain⟨⟨x0,f,ok,ov,e,C7⟩⟩:=hit
 obtain⟨od,es,hod,vG,vD,hk,E8,hn⟩:=id hm
 have hT:s.TypeIs (.ref it) "dict_itemiterator":=⟨_,e,rfl⟩
 have hsz:es.size=kvs.length:=by rw[<-E8.length];simp
 have ji:i<es.size:=by rw[hsz];exact(Jp.mp hx).1
 obtain⟨hkey,hval⟩:=E8.get? (e:=es[i]) (by simp[ji]) hx
 refine wpAny_bind (wpAny_attempt (wpAny_callSpecial?_slot (name:=Str.ofString "__next__") hT F.slot_dict_itemiterator_next (wpAny_call_entry F.slot_dict_itemiterator_next hT F.entry_dict_itemiterator_next ?_ (F.args_dict_itemiterator_next_1 _))))
 unfold Builtin.«dict_itemiterator.__next__»
 repeat (first
  | with_reducible refine wpAny_typeNameOfWhole_itemiter hT ?_
  | with_reducible refine wpAny_typeNameOf_itemiter hT ?_
  | with_reducible refine wpAny_fieldsOf e rfl ?_
  | with_reducible refine wpAny_dictEntries hod vD ?_
  | with_reducible refine wpAny_dictEpoch hod vD ?_
  | with_reducible refine wpAny_isOneOf_itemiter hT ?_
  | wp_step)
 simp only[show ¬((i:Int)<0) from by omega,if_false,Y1,Ui ji]
 refine wpAny_bind ?_
 refine wpAny_bind (wpAny_typeNameOfWhole_itemiter hT (wpAny_pure ?_))
 refine wpAny_bind (wpAny_isOneOf_itemiter hT ?_)
 change wpAny _ _ (Bind.bind (setField (.ref it) 3 (rawInt ((i:Int)+1))) _) _ _ _
 refine wpAny_bind (wpAny_setField_rec e (by simp) fun h1 e1 s1 =>?_)
 have z:((i+1:Nat):Int)=(i:Int)+1:=by omega
 have fY:sG h1 S it d (i+1) kvs.length ep:=⟨x0,f,ok,ov,by rw[z];exact e1,C7.imp id fun⟨a,oa,h1,h2,h3,h4⟩=>⟨a,oa,h1,s1.extBut _ _ h3 h2,h3,h4⟩⟩
 have Al:Shared.TypeIs { s with heap:=h1 } (.ref it) "dict_itemiterator":=⟨_,e1,rfl⟩
 refine wpAny_bind (wpAny_holding (wpAny_bind (wpAny_isOneOf_itemiter Al (wpAny_bind (wpAny_isOneOf_itemiter Al ?_)))))
 change wpAny _ _ (Builtin.Dict_items.pairFromOwner (.ref it) 6 es[i].key es[i].val) _ _ _
 refine y7 (s:={ s with heap:=h1 }) fY (by show S<h1.objs.size;rw[s1.1];exact hS) fun h' st' t' z' k' =>?_
 have zs:h1.objs.size=s.heap.objs.size:=s1.1
 show wpAny _ _ (ret (.ref h1.objs.size)) _ _ _
 rw[zs] at t' z' ⊢
 refine wpAny_pure ⟨_,rfl,wpAny_pure (hQ _ h' hkey st' (by rw[<-hval];exact t') z' fun b o nb x=>k' b o nb (s1.extBut b o nb x))⟩
theorem vQ {S it d:Addr}{i ep:Nat}{kvs:List (K×Value)}{Q:Option Value->Shared->Prop}(hh:A.handled=none)(hit:sG s.heap S it d i kvs.length ep)
  (hm:s.heap.DictAt knd d kvs ep) (hx:kvs[i]? = none) (hQ:∀h',Heap.ExtBut it s.heap h'->Q none { s with heap:=h' }) :
  wpAny (model prog w) A (pyNext (.ref it)) Q E s:=by
 obtain⟨⟨x0,f,ok,ov,e,C7⟩⟩:=hit
 obtain⟨od,es,hod,vG,vD,hk,E8,hn⟩:=id hm
 have hT:s.TypeIs (.ref it) "dict_itemiterator":=⟨_,e,rfl⟩
 have hsz:es.size=kvs.length:=by rw[<-E8.length];simp
 have TC:es.size<=i:=by rw[hsz];simpa using hx
 refine wpAny_bind (wpAny_attempt (wpAny_callSpecial?_slot (name:=Str.ofString "__next__") hT F.slot_dict_itemiterator_next (wpAny_call_entry F.slot_dict_itemiterator_next hT F.entry_dict_itemiterator_next ?_ (F.args_dict_itemiterator_next_1 _))))
 unfold Builtin.«dict_itemiterator.__next__»
 repeat (first
  | with_reducible refine wpAny_typeNameOfWhole_itemiter hT ?_
  | with_reducible refine wpAny_fieldsOf e rfl ?_
  | with_reducible refine wpAny_dictEntries hod vD ?_
  | with_reducible refine wpAny_dictEpoch hod vD ?_
  | wp_step)
 simp only[show ¬((i:Int)<0) from by omega,if_false,Y1,Yl TC]
 refine wpAny_bind ?_
 refine wpAny_bind (wpAny_typeNameOfWhole_itemiter hT (wpAny_pure ?_))
 change wpAny _ _ (Bind.bind (setField (.ref it) 2 .none) _) _ _ _
 refine wpAny_bind (wpAny_setField_rec e (by simp) fun h1 e1 s1 =>?_)
 wp_walk
 refine wpAny_raiseNew_none hh (wpAny_bind (wpAny_isInstance (T := "StopIteration") (b:=true) ⟨_,Ji _ rfl,rfl⟩ isSubtype_stop (wpAny_pure (hQ _ fun b o nb x =>?_))))
 exact Jb _ (Jb _ (s1.extBut b o nb x))
end
structure Fw (prog:Program)(w:World)(A:Around)(it S:Addr)(fp:Addr->Prop)(n:Nat)(P:Nat->Value->Heap->Prop)(R:Value->Value->Prop)(St:Nat->Heap->Prop):Prop where
 sfp:¬fp S
 item:∀i (s:Shared) (Q:Option Value->Shared->Prop) (E:Value->Shared->Prop),i<n->St i s.heap->S<s.heap.objs.size ->
  (∀v h' tk,Keeps s.heap h' fp->St (i+1) h'->P i v h'->(∀j u,P j u s.heap->R u v)->Q (some v) { s with heap:=h',toks:=tk })->wpAny (model prog w) A (pyNext (.ref it)) Q E s
 stop:∀(s:Shared) (Q:Option Value->Shared->Prop) (E:Value->Shared->Prop),St n s.heap->S<s.heap.objs.size->(∀h' tk,Keeps s.heap h' fp->Q none { s with heap:=h',toks:=tk })->wpAny (model prog w) A (pyNext (.ref it)) Q E s
 keepS:∀i h h',St i h->Keeps h h' (· = S)->St i h'
 keepP:∀j v h h',P j v h->Keeps h h' (fun b=>fp b∨b=S)->P j v h'
section
variable {prog:Program}{w:World}{A:Around}{it S:Addr}{fp:Addr->Prop}{n:Nat}{P:Nat->Value->Heap->Prop}{R:Value->Value->Prop}{St:Nat->Heap->Prop}
theorem nU (Fd:Fw prog w A.in1 it S fp n P R St)(hn:n<=sizeLine){s:Shared}{Z:Result->Shared->Prop}{res:Value}{g:Heap}(fin:mM g S fp n P R s (Z (.ok (.ret res)))):
  ∀(k i:Nat) (h:Heap) (tk:Nat) (acc:Array Value) (c:Nat),i+k=n->St i h->oy h S i P R acc c->Keeps g h (fun b=>fp b∨b=S) ->
   codeAny (model prog w) A (.builtin "list.extend.loop" ⟨[.ref S,.ref it,res],[]⟩) Z { s with heap:=h,toks:=tk }
 | 0,i,h,tk,acc,c,hk,kM,G,kp=>by
  have e:i=n:=by omega
  subst e
  refine codeAny_builtin PySem.F.entry_extend_loop ?_
  rw[Around.under_plainId PySem.F.plain_extend_loop _]
  refine wpAny_bind (Fd.stop { s with heap:=h,toks:=tk } _ _ kM (Jf G.ob) fun h' tk' k'=>wpAny_pure ?_)
  exact fin h' tk' acc c (fun b o nb q=>k' b o (fun z=>nb (.inl z)) (kp b o nb q)) ⟨k' _ _ Fd.sfp G.ob,G.sz,G.pw,fun j v e=>Fd.keepP _ _ _ _ (G.all j v e) fun b o nb q=>k' b o (fun z=>nb (.inl z)) q⟩
 | k+1,i,h,tk,acc,c,hk,kM,G,kp=>by
  refine codeAny_builtin PySem.F.entry_extend_loop ?_
  rw[Around.under_plainId PySem.F.plain_extend_loop _]
  refine wpAny_bind (Fd.item i { s with heap:=h,toks:=tk } _ _ (by omega) kM (Jf G.ob) fun v h' tk' k' st' pv rv =>?_)
  have LA:=k' _ _ Fd.sfp G.ob
  have other:Keeps h' (h'.update S (Obj.mapSeq (·.push v))) (· = S):=fun b o nb q=>(Ua _ _ (Ne.symm nb)).trans q
  have k2:Keeps h (h'.update S (Obj.mapSeq (·.push v))) (fun b=>fp b∨b=S):=fun b o nb q=>other b o (fun z=>nb (.inr z)) (k' b o (fun z=>nb (.inl z)) q)
  have sz:=G.sz
  refine wpAny_bind (wpAny_updateSeq LA rfl (wpAny_pure ⟨plainId_quiet PySem.F.plain_extend_loop _,?_⟩) (by rw[sz];omega) (by show(acc.push v).size<=sizeLine+1;rw[Array.size_push,sz];omega))
  refine nU Fd hn fin k (i+1) _ tk' (acc.push v) _ (by omega) (Fd.keepS _ _ _ st' other) ⟨Jz _ LA rfl,by rw[Array.size_push,sz],?_,fun j u e =>?_⟩ (fun b o nb q=>k2 b o nb (kp b o nb q))
  ·rw[Array.toList_push]
   refine Yw.mpr ⟨G.pw,List.pairwise_singleton _ _,fun a ha b hb =>?_⟩
   obtain⟨j,hj⟩:=U5.mp ha
   rw[Uc.mp hb]
   exact rv j a (G.all j a (by simpa using hj))
  ·by_cases hj:j<i
   ·rw[Array.getElem?_push_lt (by omega)] at e
    exact Fd.keepP _ _ _ _ (G.all j u (by rw[Ui (by omega)];exact e)) k2
   ·have Dc:j=i:=by
     have:=(Yb.mp e).1
     rw[Array.size_push] at this
     omega
    subst Dc
    have e':(acc.push v)[acc.size]? = some u:=by rw[sz];exact e
    rw[Array.getElem?_push_size] at e'
    cases e'
    exact Fd.keepP _ _ _ _ pv fun b o nb q=>other b o (fun z=>nb (.inr z)) q
end
section
variable {prog:Program}{w:World}{K:Type}[DecidableEq K]{knd:KeyKind prog w K}
abbrev ke (knd:KeyKind prog w K)(it S:Addr)(kvs:List (K×Value))(j:Nat)(v:Value)(h:Heap):Prop:=∃(a:Addr) (k:K) (key val:Value),v = .ref a/\S<a/\it<a/\kvs[j]? = some (k,val)/\knd.is k key=true/\a<h.objs.size/\h.get? a=some { cls := .type "tuple",data := .seq #[key,val] }
theorem wb {A:Around}{it d S:Addr}{kvs:List (K×Value)}{ep:Nat}(hh:A.handled=none)(n1:it≠S)(n2:d≠it)(n3:d≠S):
  Fw prog w A it S (· = it) kvs.length (ke knd it S kvs) iY (fun i h=>sG h S it d i kvs.length ep/\h.DictAt knd d kvs ep) where
 sfp:=fun z=>n1 z.symm
 item:=fun i s Q E hi st hS q=>by
  obtain⟨st,hm⟩:=st
  have low:it<s.heap.objs.size:=by obtain⟨⟨_,_,_,_,e,_⟩⟩:=st;exact Jf e
  refine uY st hS hm (k:=kvs[i].1) (v:=kvs[i].2) (Jc hi) fun key h' hk st' t' z' k' =>?_
  refine q _ h' s.toks (fun b o nb x=>k' b o nb x) ⟨st',?_⟩ ⟨_,_,key,_,rfl,hS,low,Jc hi,hk,by rw[z'];exact Nat.lt_succ_self _,t'⟩ fun j u hu =>?_
  ·obtain⟨o,es,ho,r⟩:=hm
   exact⟨o,es,k' _ _ n2 ho,r⟩
  ·refine aj.el (hu) _ ?_
   rintro a _ _ _ rfl _ _ _ _ ha _
   exact⟨a,_,rfl,rfl,ha⟩
 stop:=fun s Q E st hS q=>by
  obtain⟨st,hm⟩:=st
  exact vQ hh st hm (List.getElem?_eq_none (Jd _)) fun h' kb=>q h' s.toks fun b o nb x=>kb b o nb x
 keepS:=fun i h h' st k=>by
  obtain⟨⟨⟨x0,f,ok,ov,e,hx⟩⟩,⟨o,es,ho,r⟩⟩:=st
  exact⟨⟨x0,f,ok,ov,k _ _ n1 e,hx.imp id fun⟨a,oa,h1,h2,h3,h4⟩=>⟨a,oa,h1,k _ _ h4 h2,h3,h4⟩⟩,⟨o,es,k _ _ n3 ho,r⟩⟩
 keepP:=fun j v h h' p k=>by
  refine aj.el (p) _ ?_
  rintro a kk key val h1 h2 h3 h4 h5 h6 h7
  have z:=k a _ (fun z=>z.elim (fun z=>Uj _ (z▸h3)) fun z=>Uj _ (z▸h2)) h7
  exact⟨a,kk,key,val,h1,h2,h3,h4,h5,Jf z,z⟩
theorem zc:isSubtype (.type "dict_items") (.type "dict_items")=pure true:=by
 first|rfl|decide|(unfold isSubtype;rfl)
theorem uv {A:Around}{S vw d:Addr}{kvs:List (K×Value)}{ep:Nat}(hh:A.in1.handled=none){s:Shared}{Z:Result->Shared->Prop}{res:Value}{c₀:Nat}(hv:s.heap.IsItemsView vw d)(hm:s.heap.DictAt knd d kvs ep)(hn:kvs.length<=sizeLine)
  (NH:vw≠S) (M3:d≠S) (hS:s.heap.get? S=some { cls := .type "list",data := .seq #[] c₀ })
  (fin:∀h' tk acc c,Keeps s.heap h' (· = S)->oy h' S kvs.length (ke knd s.heap.objs.size S kvs) iY acc c->Z (.ok (.ret res)) { s with heap:=h',toks:=tk }) :
  wpAny (model prog w) A.in1 (Builtin.List.listExtendWith (.ref S) (.ref vw) res) (rq prog w A Z) (fun e s'=>Z (.error e) s') s:=by
 have hT:=hv.typeIs
 have BL:Builtin.List.listSameRef (.ref S) (.ref vw)=false:=by simp[Builtin.List.listSameRef,Ne.symm NH]
 unfold Builtin.List.listExtendWith
 refine wpAny_bind (wpAny_typeOf hT ?_)
 simp only[BL,show(Value.type "dict_items" == Value.type "list")=false by decide,show(Value.type "dict_items" == Value.type "tuple")=false by decide,Bool.or_false,U2,if_false]
 refine wpAny_bind (wpAny_pyIter_items hv hm ?_)
 obtain⟨h1,eh1⟩:∃h1,h1=s.heap.push { cls := .type "dict_itemiterator",data := .fields #[.none,.bool false,.ref d,.int 0 0,.int kvs.length 0,.int ep 0,.none,.none] }:=⟨_,rfl⟩
 have k1:∀b o,s.heap.get? b=some o->h1.get? b=some o:=fun b o x=>by rw[eh1];exact Jb _ x
 have fY:sG h1 S s.heap.objs.size d 0 kvs.length ep:=⟨.none,false,.none,.none,by rw[eh1];exact Ji _ rfl,.inl rfl⟩
 rw[<-eh1]
 clear eh1
 have Al:Shared.TypeIs { s with heap:=h1 } (.ref vw) "dict_items":=by
  obtain⟨o,ho,hc,_⟩:=hv
  exact⟨o,k1 _ _ ho,hc⟩
 have hint:∀(Q:Bool->Shared->Prop),Q false { s with heap:=h1 } -> wpAny (model prog w) A.in1 (Builtin.List.listLengthHint (.ref vw)) Q (fun e s'=>Z (.error e) s') { s with heap:=h1 }:=fun Q q=>by
  unfold Builtin.List.listLengthHint
  refine wpAny_bind (wpAny_specialOf Al F.slot_dict_items_len.lookup ?_)
  refine wpAny_bind (wpAny_isInstance (T := "dict_items") (b:=true) Al zc ?_)
  refine wpAny_ite_split (fun z=>absurd z (by decide)) fun _=>wpAny_ite_split (fun _ =>?_) fun z=>absurd (show _=true by decide +kernel) z
  exact wpAny_bind (wpAny_typeOf Al (wpAny_pure q))
 refine wpAny_bind (wpAny_holding (hint _ ?_))
 have mD:=k1 _ _ hS
 have low:=Jf hS
 have nS:s.heap.objs.size≠S:=Uk low
 have QT:d<s.heap.objs.size:=hm.lt_size
 have go:∀(h:Heap) (c tk:Nat),Keeps h1 h (· = S)->h.get? S=some { cls := .type "list",data := .seq #[] c } -> codeAny (model prog w) A (.builtin "list.extend.loop" ⟨[.ref S,.ref s.heap.objs.size,res],[]⟩) Z { s with heap:=h,toks:=tk }:=
  fun h c tk k o=>by
   have Fd:=wb (knd:=knd) (kvs:=kvs) (ep:=ep) (A:=A.in1) hh nS (Jk QT) M3
   obtain⟨od,es,ho,r⟩:=hm
   refine nU Fd hn (g:=h1) (fun h' tk acc c k' G=>fin h' tk acc c (fun b o nb q=>k' b o (fun z=>z.elim (fun z=>Uj _ (z▸Jf q)) nb) (k1 b o q)) G) kvs.length 0 h tk #[] c (by omega) (Fd.keepS _ _ _ ⟨fY,od,es,k1 _ _ ho,r⟩ k) ⟨o,rfl,.nil,fun j v e=>by simp at e⟩ fun b o nb q=>k b o (fun z=>nb (.inr z)) q
 refine wpAny_ite_split (fun _ =>?_) fun z=>absurd (show _=true by decide +kernel) z
 refine wpAny_bind (wpAny_rule (wpAny_bind ?_))
 have o1:=Jz (Obj.mapSeq (·.push Value.none)) mD rfl
 have o2:=Jz (Obj.mapSeq (·.pop)) o1 rfl
 refine wpAny_bind (wpAny_updateSeq (s:={ s with heap:=h1 }) mD rfl (wpAny_updateSeq (hz:=by seq_fits) o1 rfl (wpAny_pure ⟨plainId_quiet PySem.F.plain_extend_loop _,go _ _ _ (fun b o nb q =>?_) o2⟩)))
 exact(Ua _ _ (Ne.symm nb)).trans ((Ua _ _ (Ne.symm nb)).trans q)
theorem yA {A:Around}{S vw d:Addr}{kvs:List (K×Value)}{ep:Nat}(hh:A.in1.handled=none){s:Shared}{Z:Result->Shared->Prop}(hv:s.heap.IsItemsView vw d)(hm:s.heap.DictAt knd d kvs ep)(hn:kvs.length<=sizeLine)
  (NH:vw≠S) (M3:d≠S) (hS:s.heap.get? S=some { cls := .type "list",data := .seq #[] })
  (fin:∀h' tk acc c,Keeps s.heap h' (· = S)->oy h' S kvs.length (ke knd s.heap.objs.size S kvs) iY acc c->Z (.ok (.ret .none)) { s with heap:=h',toks:=tk }) :
  wpAny (model prog w) A.in1 (Builtin.«list.__init__» ⟨[.ref S,.ref vw],[]⟩) (rq prog w A Z) (fun e s'=>Z (.error e) s') s:=by
 refine wpAny_bind ?_
 unfold Builtin.List.listItems
 refine wpAny_bind (wpAny_seqItems hS rfl (wpAny_pure ?_))
 have o1:=Jz (Obj.mapSeq (fun _=>(#[]:Array Value))) hS rfl
 have k1:Keeps s.heap (s.heap.update S (Obj.mapSeq (fun _=>(#[]:Array Value)))) (· = S):=fun b o nb q=>(Ua _ _ (Ne.symm nb)).trans q
 refine wpAny_bind (wpAny_updateSeq hS rfl (wpAny_bind (wpAny_letGo ?_)))
 have hz:(s.heap.update S (Obj.mapSeq (fun _=>(#[]:Array Value)))).objs.size=s.heap.objs.size:=Heap.size_update ..
 obtain⟨ov,hov,c1,c2⟩:=hv
 obtain⟨od,es,ho,r⟩:=hm
 refine uv (knd:=knd) (kvs:=kvs) (ep:=ep) (s:={ s with heap:=_ }) hh ⟨ov,k1 _ _ NH hov,c1,c2⟩ ⟨od,es,k1 _ _ M3 ho,r⟩ hn NH M3 o1 fun h' tk acc c k G =>?_
 refine fin h' tk acc c (fun b o nb q=>k b o nb (k1 b o nb q)) ?_
 have e:s.heap.objs.size=(s.heap.update S (Obj.mapSeq (fun _=>(#[]:Array Value)))).objs.size:=hz.symm
 rw[e]
 exact G
theorem zo {A:Around}{E:Value->Shared->Prop}{vw d:Addr}{kvs:List (K×Value)}{ep:Nat}(hh:A.handled=none){s:Shared}{Q:Value->Shared->Prop}(hv:s.heap.IsItemsView vw d)(hm:s.heap.DictAt knd d kvs ep)(hn:kvs.length<=sizeLine)
  (fin:∀h' tk acc c,(∀b o,s.heap.get? b=some o->h'.get? b=some o)->oy h' s.heap.objs.size kvs.length (ke knd (s.heap.objs.size+1) s.heap.objs.size kvs) iY acc c->Q (.ref s.heap.objs.size) { s with heap:=h',toks:=tk }) :
  wpAny (model prog w) A (call (.type "list") [.ref vw]) Q E s:=by
 refine callType_codes (Q₁:=fun obj s₁=>obj = .ref s.heap.objs.size/\s₁={ s with heap:=s.heap.push { cls := .type "list",data := .seq #[] } }) F.called_list (F.typeCall_list_1 _) F.entry_list_init
  (code_list_new _ ⟨rfl,rfl⟩) fun obj s₁ h₁ =>?_
 obtain⟨rfl,rfl⟩:=h₁
 have hS:(s.heap.push { cls := .type "list",data := .seq #[] }).get? s.heap.objs.size=some { cls := .type "list",data := .seq #[] }:=Ji _ rfl
 obtain⟨ov,hov,c1,c2⟩:=hv
 obtain⟨od,es,ho,r⟩:=hm
 refine⟨⟨_,hS,rfl⟩,F.args_list_init_2 _ _,yA (knd:=knd) (kvs:=kvs) (ep:=ep) (s:={ s with heap:=_ }) (A:=A.in1) hh ⟨ov,Jb _ hov,c1,c2⟩ ⟨od,es,Jb _ ho,r⟩ hn (Jk (Jf hov)) (Jk (Jf ho)) hS fun h' tk acc c k G=>⟨rfl,fin h' tk acc c (fun b o q =>?_) ?_⟩⟩
 ·exact k b o (Jk (Jf q)) (Jb _ q)
 ·have e:(s.heap.push { cls := .type "list",data := .seq #[] }).objs.size=s.heap.objs.size+1:=J2 ..
  rw[<-e]
  exact G
end
theorem MA {P:Program}{w:World}{k:Key}{u:Value}(h:(bA P w).is k u=true):RelV (kV k) u:=by
 rw[wg] at h
 cases k with
 | inl i=>exact Value.isInt_shape (k:=i) (v:=u) h
 | inr x=>exact Value.isStrOf_shape (x:=x) (v:=u) h
theorem K3 {kvs:List (Key×V)}{vs:List (Key×Value)}(r:KV kvs vs):∀{j:Nat} {k:Key} {u:Value},vs[j]? = some (k,u)->∃v,kvs[j]? = some (k,v)/\RelV v u:=by
 induction r with
 | nil=>intro j k u h;simp at h
 | @cons p q ps qs h t ih=>
  intro j k u e
  cases j with
  | zero=>
   cases e
   have h1:p.1=k:=h.1
   exact⟨p.2,by rw[<-h1];rfl,h.2⟩
  | succ j=>exact ih e
section
variable {X:Cx}
def SS (to:TE):TE:=fun σ H Q=>to σ H fun x H1=>∃a kvs,x = .ref a/\H1 a=some (.dK kvs) /\
 ∀H' p (as:List Addr),ak H1 H'->H1 p=none->H' p=some (.lst (as.map V.ref))->as.length=kvs.length ->
  (∀(j:Nat) b k v,as[j]? = some b->kvs[j]? = some (k,v)->H1 b=none/\H' b=some (.tup [kV k,v]))->Q (.ref p) H'
theorem qk {o:Expr}{to:TE}{p pos apos eg:Pos}(hc:X.calm=true)(Hb:Gl X "list")(IB:X.mg "list" = none)(ho:PE X o to)
  (HA:bootBuiltins "list" = some (.type "list"):=by first|rfl|decide)
  (BP:starEach [.Call (.Attribute o "items" apos) [] [] eg] X.env=[(false,eval (.Call (.Attribute o "items" apos) [] [] eg) X.env)]:=by rfl)
  (kg:attributeBase o "items" X.env (eval o X.env)=eval o X.env:=by rfl) (kr:(apos.endLine==eg.line)=true:=by rfl) :
  PE X (.Call (.Name "list" p) [.Call (.Attribute o "items" apos) [] [] eg] [] pos) (SS to):=by
 intro pins s σ H Q I h
 refine wpAny_Call_Name_kw (dU I Hb IB HA ?_)
 refine PyProof.Rows.callWith_type1 ?_ BP rfl
 rw[BP]
 show wpAny _ _ (spliced ((false,eval (.Call (.Attribute o "items" apos) [] [] eg) X.env)::[])) _ _ _
 refine Calls.spliced_cons ?_
 refine wpAny_Call_method0_late kg kr (bG (ho s σ H _ I h) fun v s1 ⟨x,H1,I1,r1,q1⟩=>?_)
 refine aj.el (q1) _ ?_
 rintro a kvs rfl ea q
 cases r1
 obtain⟨h1,h2⟩:=wm I1 (x := .ref a) (v := .ref a) rfl (show Nt X.K "dict" (.ref a) H1 from .inr (.inr (.inl ⟨rfl,.inl ⟨kvs,ea⟩⟩)))
 refine aj.el (CZ I1.bB ea) _ ?_
 rintro hz hsm vs rel dd
 refine⟨"dict", "dict.items",PySem.F.plainAttrs_dict,PySem.F.slot_dict_items,PySem.F.type_dict_items,h1,h2,Calls.callWith_builtin rfl (PySem.evalArgs_none ?_)⟩
 refine call_meetsIn PySem.F.slot_dict_items h1 PySem.F.entry_dict_items (PySem.F.args_dict_items_1 _) (meets_dict_items (bA X.prog X.w) a hsm) ⟨⟨vs,dd⟩,?_⟩
 refine Calls.spliced_nil ?_
 obtain⟨ep,dat⟩:=dd.dictAt
 obtain⟨hp,ehp⟩:∃hp,hp=s1.heap.push { cls := .type "dict_items",data := .fields #[.ref a] }:=⟨_,rfl⟩
 have hk:∀b o,s1.heap.get? b=some o->hp.get? b=some o:=fun b o x=>by rw[ehp];exact Jb _ x
 have Mm:hp.IsItemsView s1.heap.objs.size a:=⟨_,by rw[ehp];exact Ji _ rfl,rfl,rfl⟩
 have hsz:hp.objs.size=s1.heap.objs.size+1:=by rw[ehp,J2]
 have pM:s1.heap.objs.size<=hp.objs.size:=by rw[hsz];exact U1 _
 rw[<-ehp]
 have rl:=rel.length
 refine zo (knd:=bA X.prog X.w) (s:={ s1 with heap:=hp }) (I.ok.hd hc) Mm (dat.keep hk) (by rw[<-rl];exact hz) fun h' tk acc c hk2 G =>?_
 obtain⟨gob,gsz,gpw,gall⟩:=G
 obtain⟨as,gD⟩:=mE (l:=acc.toList) fun v hv=>by
  obtain⟨j,hj⟩:=U5.mp hv
  obtain⟨b,_,_,_,e,_⟩:=gall j v (by simpa using hj)
  exact⟨b,e⟩
 have iX:∀(j:Nat) b,as[j]? = some b->∃(k:Key) (key val:Value),hp.objs.size<b/\vs[j]? = some (k,val)/\(bA X.prog X.w).is k key=true/\h'.get? b=some { cls := .type "tuple",data := .seq #[key,val] }:=fun j b hb=>by
  obtain⟨b',k,key,val,e,g1,_,g3,g4,_,g6⟩:=gall j (.ref b) (by
   have:acc.toList[j]? = some (.ref b):=by rw[gD,Jl,hb];rfl
   simpa using this)
  cases e
  exact⟨k,key,val,g1,g3,g4,g6⟩
 have above:∀b∈as,hp.objs.size<b:=fun b hb=>by
  obtain⟨j,hj⟩:=U5.mp hb
  obtain⟨_,_,_,g,_⟩:=iX j b hj
  exact g
 have I2:Inv X pins σ H1 { s1 with heap:=h',toks:=tk }:=I1.kept fun b o e=>hk2 b o (hk b o e)
 have sf:∀b∈as,s1.heap.objs.size<=b:=fun b hb=>Uz (J3 pM (above b hb))
 have nd:as.Nodup:=by
  rw[gD,List.pairwise_map] at gpw
  exact gpw.imp fun⟨a,b,e1,e2,h⟩=>by cases e1;cases e2;exact Jk h
 have eC:∀b,s1.heap.objs.size<=b->eu X pins H1 b/\X.s₀.heap.objs.size<=b:=fun b hb=>⟨I1.eC hb (I1.bB.fresh hb),Jg I1.sz hb⟩
 have Ej:as.length=kvs.length:=by
  have z:acc.toList.length=as.length:=by rw[gD,Je]
  simp at z gsz
  omega
 obtain⟨H',I',sm,same,all⟩:=I2.j8 as (kvs.map fun q=>[kV q.1,q.2]) nd (by rw[Je];exact Ej) (fun b hb=>eC b (sf b hb)) (fun j b pp g1 g2=>by
  refine aj.el (iX j b g1) _ ?_
  rintro k key val _ c1 c2 c3
  refine aj.el (K3 rel c1) _ ?_
  rintro v c4 c5
  rw[Jl,c4] at g2
  cases g2
  exact⟨by show 2<=sizeLine;decide,[key,val],.cons (MA c2) (.cons c5 .nil),⟨_,c3,rfl,rfl,_,rfl⟩⟩)
 have A4:hp.objs.size∉as:=fun hm=>Uj _ (above _ hm)
 have mD:H1 hp.objs.size=none:=I1.bB.fresh pM
 obtain⟨fS,sS⟩:=eC hp.objs.size pM
 have Lz:eu X pins H' hp.objs.size:=⟨by rw[same _ A4];exact mD,fS.2⟩
 have I3:=I'.adopt (T:=hp.objs.size) (o := .lst (as.map V.ref)) Lz sS ⟨by rw[Je];omega,acc.toList,c,by
  rw[gD]
  clear gob gD all same I' sm sf nd Ej A4 above iX
  induction as with
  | nil=>exact .nil
  | cons a r ih=>exact .cons rfl ih,by simpa using gob⟩
 refine⟨.ref hp.objs.size,_,I3,rfl,q _ _ as (fun b o e =>?_) mD aq Ej fun j b k v g1 g2=>⟨(eC b (sf b (Ju g1))).1.1,?_⟩⟩
 ·rw[ao (aF e mD)];exact sm b o e
 ·rw[ao (fun(z:b=hp.objs.size)=>A4 (by rw[<-z];exact Ju g1))]
  exact all j b [kV k,v] g1 (by rw[Jl,g2];rfl)
end
theorem Dj:typeLookup (.type "list") "keys" = pure none:=by rw[typeLookup_type,builtinLookup_eq_fast];kernel_rfl
theorem Mw:typeLookup (.type "list") "__getattr__" = pure none:=by rw[typeLookup_type,builtinLookup_eq_fast];kernel_rfl
theorem lA:isSubtype (.type "AttributeError") (.type "AttributeError")=pure true:=by first|rfl|(rw[isSubtype_type];kernel_rfl)
section
variable {prog:Program}{w:World}{A:Around}{E:Value->Shared->Prop}{h:Heap}{g:Array GenState}{d:Drawn}{t:Nat}{os:OsState}{a:Addr}{o:Obj}
theorem vM {tk:Tok}{Q:Fin->Shared->Prop}(hx:h.get? a=some o)(hc:o.cls = .type "list")(oE:o.dict=none){xs:Array Value}{n:Nat}(hd:o.data = .seq xs n)(hh:A.handled=none)
  (hq:∀e h' t',(∀b o,h.get? b=some o->h'.get? b=some o)->(∃oe,h'.get? e=some oe/\oe.cls = .type "AttributeError")->E (.ref e) ⟨h',g,d,t',os⟩) :
  wpAny (model prog w) A (Builtin.«object.__getattribute__» ⟨[.ref a,.str "keys" tk],[]⟩) Q E ⟨h,g,d,t,os⟩:=by
 have hT:(⟨h,g,d,t,os⟩:Shared).TypeIs (.ref a) "list":=⟨_,hx,hc⟩
 have f4:=Dj
 repeat (any_goals (first|assumption|wp_step))
 rw[hd]
 dsimp only
 unfold instanceDict
 repeat (any_goals (first|assumption|wp_step))
 rw[oE,hc]
 repeat (any_goals (first|assumption|wp_step))
 have f9:=lA
 unfold raiseAttrError noteAttr
 wp_walk
 rw[show(Manifest.find? "AttributeError").elim false (fun t=>t.mro.contains "StopIteration" || t.mro.contains "SystemExit")=false by decide +kernel,if_neg Jt]
 repeat (any_goals (first|assumption|wp_step))
 refine wpAny_raiseNew_none hh (hq _ _ _ (fun b o' x =>?_) ⟨_,Jz _ (Ji _ rfl) rfl,rfl⟩)
 have x1:=Jb (h:=h) { cls:=Value.type "tuple",data:=Data.seq #[Value.str (Str.ofString (toString "'" ++ toString ((Manifest.find? "list").elim "list" fun x=>x.tpName)++toString "' object has no attribute '")++Str.ofString "keys" ++ Str.ofString "'") t] } x
 rw[Ua _ _ (Uk (Jf x1))]
 exact Jb _ x1
theorem zq {tk:Tok}{R:Result->Shared->Prop}(hx:h.get? a=some o)(hc:o.cls = .type "list")(oE:o.dict=none){xs:Array Value}{n:Nat}(hd:o.data = .seq xs n)(hh:A.handled=none)
  (hq:∀e h' t',(∀b o,h.get? b=some o->h'.get? b=some o)->(∃oe,h'.get? e=some oe/\oe.cls = .type "AttributeError")->R (.error (.ref e)) ⟨h',g,d,t',os⟩) :
  codeAny (model prog w) A (.call (.builtin "list.__getattribute__") ⟨[.ref a,.str "keys" tk],[]⟩) R ⟨h,g,d,t,os⟩:=
 codeAny_call_builtin F.slot_list_getattribute.plain F.entry_list_ga (F.slot_list_getattribute.check _ _ _ _ _ _ _ _ (show(⟨h,g,d,t,os⟩:Shared).TypeIs (.ref a) "list" from⟨_,hx,hc⟩) (F.args_list_getattribute_2 _ _) (vM hx hc oE hd hh hq))
theorem zW {Q:Option Value->Shared->Prop}(hx:h.get? a=some o)(hc:o.cls = .type "list")(oE:o.dict=none){xs:Array Value}{n:Nat}(hd:o.data = .seq xs n)(hh:A.handled=none)
  (hq:∀h' t',(∀b o,h.get? b=some o->h'.get? b=some o)->Q none ⟨h',g,d,t',os⟩):wpAny (model prog w) A (getAttr? (.ref a) "keys") Q E ⟨h,g,d,t,os⟩:=by
 have hT:(⟨h,g,d,t+1,os⟩:Shared).TypeIs (.ref a) "list":=⟨_,hx,hc⟩
 have f2:=F.slot_list_getattribute.lookup
 have f3:=F.slot_list_getattribute.bind (.ref a)
 have f4:=Mw
 unfold getAttr? getAttrBy?
 repeat (any_goals (first|assumption|wp_step))
 refine zq hx hc oE hd hh fun e h' t' k hoe =>?_
 have L6:Shared.TypeIs ⟨h',g,d,t',os⟩ (.ref e) "AttributeError":=hoe
 have f5:=lA
 dsimp only
 unfold getattributeRaised
 refine wpAny_bind (wpAny_isInstance (T := "AttributeError") (b:=true) L6 f5 ?_)
 rw[if_pos rfl]
 unfold hookBehind
 repeat (any_goals (first|assumption|wp_step))
 exact hq h' t' k
end
theorem cB:entryFor table "dict.update.loop" = some Builtin.«dict.update.loop»:=entryFor_of_fast (by kernel_rfl)
theorem bf:plainId "dict.update.loop" = true:=by decide +kernel
section
variable {prog:Program}{w:World}{K:Type}[DecidableEq K]{knd:KeyKind prog w K}{A:Around}{E:Value->Shared->Prop}
def jU (knd:KeyKind prog w K)(h:Heap)(v:Value)(kv:K×Value):Prop:=∃(tp:Addr) (o:Obj) (n:Nat) (ku:Value),v = .ref tp/\h.get? tp=some o/\o.cls = .type "tuple" /\ o.data = .seq #[ku,kv.2] n/\knd.is kv.1 ku=true
theorem mV {s:Shared}{R:Result->Shared->Prop}{it l d:Addr}{items:Array Value}{kvs:List (K×Value)}{g:Heap}(hh:A.in1.handled=none)(hl:g.IsList l items)(hn:items.size=kvs.length)(hz:kvs.length<=100000)
  (hp:∀(j:Nat) v kv,items[j]? = some v->kvs[j]? = some kv->jU knd g v kv) (lit:∀b o,g.get? b=some o->b≠it/\b≠d) (ne:d≠it)
  (fin:∀h tk,(∀b o,b≠d->b≠it->g.get? b=some o->h.get? b=some o)->h.DictOf knd d (merged [] kvs)->R (.ok (.ret .none)) { s with heap:=h,toks:=tk }) :
  ∀(k i:Nat) (h:Heap) (tk:Nat) (acc:List (K×Value)),i+k=kvs.length->acc.length<=i->merged acc (kvs.drop i)=merged [] kvs->(∀b o,b≠d->b≠it->g.get? b=some o->h.get? b=some o)->h.IsListIter it l i->h.DictOf knd d acc ->
   codeAny (model prog w) A (.builtin "dict.update.loop" ⟨[.ref d,.ref it,rawInt i,.none],[]⟩) R { s with heap:=h,toks:=tk }
 | 0,i,h,tk,acc,hk,ha,hm,kp,hi,hd=>by
  have e:i=kvs.length:=by omega
  subst e
  have zN:h.IsList l items:=by
   obtain⟨o,ho,r⟩:=hl
   exact⟨o,kp _ _ (lit _ _ ho).2 (lit _ _ ho).1 ho,r⟩
  refine codeAny_builtin cB ?_
  rw[Around.under_plainId bf _]
  unfold Builtin.«dict.update.loop»
  refine wpAny_bind (wpAny_pyNext_list_end (s:={ s with heap:=h,toks:=tk }) hh hi zN (by rw[Yl (by omega)]) fun h' eb =>?_)
  refine wpAny_bind (m:=Builtin.Dict.addKeywords d []) (wpAny_pure (wpAny_pure ?_))
  refine fin h' tk (fun b o nd ni x=>eb b o ni (kp b o nd ni x)) ?_
  rw[List.drop_length] at hm
  have hm:acc=merged [] kvs:=hm
  rw[<-hm]
  obtain⟨o,es,ep,ho,r⟩:=hd
  exact⟨o,es,ep,eb _ _ ne ho,r⟩
 | k+1,i,h,tk,acc,hk,ha,hm,kp,hi,hd=>by
  have ji:i<kvs.length:=by omega
  have zN:h.IsList l items:=by
   obtain⟨o,ho,r⟩:=hl
   exact⟨o,kp _ _ (lit _ _ ho).2 (lit _ _ ho).1 ho,r⟩
  have hit:items[i]? = some items[i]:=Ui (by omega)
  obtain⟨tp,o,n,ku,ev,ho,hc,vK,hkey⟩:=hp i _ _ hit (Jc ji)
  refine codeAny_builtin cB ?_
  rw[Around.under_plainId bf _]
  unfold Builtin.«dict.update.loop»
  refine wpAny_bind (wpAny_pyNext_list_item (s:={ s with heap:=h,toks:=tk }) hi zN hit fun h1 hi1 C3 =>?_)
  rw[ev]
  have Fy:h1.get? tp=some o:=C3.extBut _ _ (lit _ _ ho).1 (kp _ _ (lit _ _ ho).2 (lit _ _ ho).1 ho)
  have Df:h1.DictOf knd d acc:=by
   obtain⟨o,es,ep,ho,r⟩:=hd
   exact⟨o,es,ep,C3.extBut _ _ ne ho,r⟩
  have hT:Shared.TypeIs { s with heap:=h1,toks:=tk } (.ref tp) "tuple":=⟨o,Fy,hc⟩
  refine wpAny_bind (wpAny_holding ?_)
  refine wpAny_bind (wpAny_tryCatch ?_)
  unfold Builtin.Dict.pairItems
  refine wpAny_bind (wpAny_typeOf hT ?_)
  rw[if_pos (by decide)]
  refine wpAny_bind (wpAny_seqItems (s:={ s with heap:=h1,toks:=tk }) Fy vK (wpAny_pure ?_))
  refine wpAny_holding (wpAny_dictSet_pairs (s:={ s with heap:=h1,toks:=tk }) hkey Df (fun h2 hd2 sb2 =>?_) (Jg (show acc.length<=100000 by omega) (by decide)))
  refine wpAny_pure ⟨plainId_quiet bf _,?_⟩
  have:=mV hh hl hn hz hp lit ne fin k (i+1) h2 (tk+1) (stored acc kvs[i].1 kvs[i].2) (by omega) ?_ ?_ (fun b o nd ni x=>sb2.extBut b o nd (C3.extBut b o ni (kp b o nd ni x))) ?_ hd2
  ·exact this
  ·refine Jg ?_ (Y9 ha)
   unfold stored
   split
   ·rw[Je];exact U1 _
   ·rw[Jq];exact Jd _
  ·rw[<-hm,List.drop_eq_getElem_cons ji]
   rfl
  ·obtain⟨oi,e1,r⟩:=hi1
   exact⟨oi,sb2.extBut _ _ (Ne.symm ne) e1,r⟩
theorem wV {s:Shared}{Q:Value->Shared->Prop}{l:Addr}{items:Array Value}{kvs:List (K×Value)}{ol:Obj}{n:Nat}(hh:A.handled=none)(ho:s.heap.get? l=some ol)(hc:ol.cls = .type "list")(oE:ol.dict=none)(hd:ol.data = .seq items n)(hn:items.size=kvs.length)(hz:kvs.length<=100000)
  (hp:∀(j:Nat) v kv,items[j]? = some v->kvs[j]? = some kv->jU knd s.heap v kv)
  (fin:∀h tk,(∀b o,s.heap.get? b=some o->h.get? b=some o)->h.DictOf knd s.heap.objs.size (merged [] kvs)->Q (.ref s.heap.objs.size) { s with heap:=h,toks:=tk }) :
  wpAny (model prog w) A (call (.type "dict") [.ref l]) Q E s:=by
 refine callType_codes (Q₁:=fun obj s₁=>obj = .ref s.heap.objs.size/\s₁={ s with heap:=s.heap.push { cls := .type "dict",data := .dict #[] } }) F.kt_called_dict (F.kt_typeCall_dict_1 _) F.entry_dict_init (kt_code_dict_new _ ⟨rfl,rfl⟩) ?_
 rintro obj s1 ⟨rfl,rfl⟩
 have new:(s.heap.push { cls := .type "dict",data := .dict #[] }).DictOf knd s.heap.objs.size []:=Heap.DictOf.new s.heap
 have k0:∀b o,s.heap.get? b=some o->(s.heap.push { cls := .type "dict",data := .dict #[] }).get? b=some o:=fun b o x=>Jb _ x
 refine⟨new.typeIs,F.args_dict_init_2 _ _,?_⟩
 unfold Builtin.«dict.__init__» Builtin.Dict.selfAndRest
 refine wpAny_bind (wpAny_bind (wpAny_notOrdered_dict new.typeIs ?_))
 show wpAny _ _ (pure (s.heap.objs.size,[Value.ref l])) _ _ _
 refine wpAny_pure ?_
 show wpAny _ _ (Builtin.Dict.updateFrom "dict.__init__" s.heap.objs.size (.ref l) [] .none) _ _ _
 unfold Builtin.Dict.updateFrom
 have hT:Shared.TypeIs { s with heap:=s.heap.push { cls := .type "dict",data := .dict #[] } } (.ref l) "list":=⟨ol,k0 _ _ ho,hc⟩
 refine wpAny_bind (wpAny_typeOf hT ?_)
 rw[if_pos (by decide)]
 refine wpAny_bind (zW (h:=s.heap.push { cls := .type "dict",data := .dict #[] }) (k0 _ _ ho) hc oE hd hh fun h1 t1 k1 =>?_)
 rw[if_pos (by rfl)]
 have kk:∀b o,s.heap.get? b=some o->h1.get? b=some o:=fun b o x=>k1 b o (k0 b o x)
 refine wpAny_bind (wpAny_rule (wpAny_bind (wpAny_pyIter_list (l:=l) (items:=items) ⟨ol,kk _ _ ho,hc,n,hd⟩ ?_)))
 have hS:s.heap.objs.size<h1.objs.size:=by
  obtain⟨o,es,ep,e,_⟩:=new
  exact Jf (k1 _ _ e)
 refine wpAny_pure ⟨plainId_quiet bf _,?_⟩
 have low:∀b o,s.heap.get? b=some o->b≠h1.objs.size/\b≠s.heap.objs.size:=fun b o x=>⟨Jk (Jf (kk b o x)),Jk (Jf x)⟩
 refine mV (s:=s) (knd:=knd) (A:=A.in1) (it:=h1.objs.size) (g:=s.heap) (kvs:=kvs) hh ⟨ol,ho,hc,n,hd⟩ hn hz hp low (Jk hS) (fun h tk k dd=>⟨rfl,fin h tk (fun b o x=>k b o (low b o x).2 (low b o x).1 x) dd⟩) kvs.length 0 _ _ [] (by omega) (Jd _) rfl (fun b o nd ni x=>Jb _ (kk b o x)) ⟨_,Ji _ rfl,rfl,rfl⟩ ?_
 obtain⟨o,es,ep,e,r⟩:=new
 exact⟨o,es,ep,Jb _ (k1 _ _ e),r⟩
end
section
variable {X:Cx}{pins:List (Addr×Obj)}{σ:St}{H:Hp}{s:Shared}
theorem qh (I:Inv X pins σ H s)(as:List Addr):∀{kvs:List (Key×V)},as.length=kvs.length->(∀(j:Nat) b kv,as[j]? = some b->kvs[j]? = some kv->cE X.K H b [kV kv.1,kv.2]) ->
  ∃vs,KV kvs vs/\∀(j:Nat) b kv,as[j]? = some b->vs[j]? = some kv->jU (bA X.prog X.w) s.heap (.ref b) kv:=by
 induction as with
 | nil=>
  intro kvs hl _
  rw[Yz hl.symm]
  exact⟨[],.nil,fun j b kv h=>by simp at h⟩
 | cons a as ih=>
  intro kvs hl h
  cases kvs with
  | nil=>cases hl
  | cons p kvs=>
  obtain⟨vs,h1,h2⟩:=ih (kvs:=kvs) (by simpa using hl) fun j b kv e1 e2=>h (j+1) b kv e1 e2
  obtain⟨aA,r,⟨o,e1,e2,n,e3⟩,_⟩:=I.tuple (h 0 a p rfl rfl)
  obtain⟨ku,vu,rfl,r1,r2⟩:=r.two
  refine⟨(p.1,vu)::vs,.cons ⟨rfl,r2⟩ h1,fun j b kv e4 e5 =>?_⟩
  cases j with
  | zero=>
   cases e4;cases e5
   exact⟨a,o,n,ku,rfl,e1,e2,e3,qi r1⟩
  | succ j=>exact h2 j b kv e4 e5
theorem jS:∀{as:List Addr} {aA:List Value},Vals (as.map V.ref) aA->aA=as.map Value.ref
 | [],_,rv=>by cases rv;rfl
 | a::as,_,rv=>by
  obtain⟨v,r,rfl,rv1,rv2⟩:=rv.hd
  cases rv1
  rw[jS rv2];rfl
theorem FD (K:Ja)(hc:X.calm=true)(hK:X.K=K:=by rfl):bN X (.type "dict") (fun xs H Q=>∃(p:Addr) (as:List Addr) (kvs:List (Key×V)),xs=[.ref p]/\aM K H p (as.map V.ref)/\as.length=kvs.length/\kvs.length<=100000 /\
  (∀(j:Nat) b kv,as[j]? = some b->kvs[j]? = some kv->cE K H b [kV kv.1,kv.2])/\∀d H',gJ H d (.dK (cK [] kvs)) H'->Q (.ref d) H'):=by
 subst hK
 intro pins s σ H xs us Q I r h
 obtain⟨p,as,kvs,rfl,hp,hl,hz,ht,q⟩:=h
 obtain⟨u,rfl,ru⟩:=vals1 r
 cases ru
 obtain⟨aA,rv,⟨o,n,e1,e2,e3,e4⟩,_⟩:=I.list hp
 obtain⟨vs,kv,pa⟩:=qh I _ hl ht
 have hits:=jS rv
 have kl:=kv.length
 refine wV (knd:=bA X.prog X.w) (kvs:=vs) (I.ok.hd hc) e1 e2 e3 e4 (by rw[hits];simp;omega) (by omega) (fun j v kw h1 h2 =>?_) fun h1 tk k1 dd =>?_
 ·rw[hits] at h1
  simp only[List.getElem?_toArray,Jl] at h1
  cases e:as[j]? with
  | none=>rw[e] at h1;cases h1
  | some b=>rw[e] at h1;cases h1;exact pa j b kw e h2
 ·have ml:=dq kvs []
  have big:=I.big
  refine⟨.ref s.heap.objs.size,_,I.laid (a:=s.heap.objs.size) (o := .dK (cK [] kvs)) (t':=tk) k1 (Jd _) ⟨Jg (show _<=100000 by simp at ml;omega) (by decide),?_,_,KV.merge kv .nil,dd⟩,rfl,q _ _ ⟨I.bB.fresh (Jd _),rfl⟩⟩
  exact beq_eq_false_iff_ne.mpr (Uk big)
end
section
variable {X:Cx}
theorem EI:DJ X "list.remove" (fun x vs H Q=>∃(l:Addr) (xs:List Str) (y:Str),x = .ref l/\vs=[.str y]/\H l=some (.lst (xs.map V.str))/\y∈xs/\∀H',oZ H l (.lst ((xs.erase y).map V.str)) H'->Q .non H'):=by
 intro pins s σ H x vs v us Q I rx rv h
 obtain⟨l,xs,y,rfl,rfl,hH,hy,q⟩:=h
 cases rx
 obtain⟨u,rfl,ru⟩:=vals1 rv
 obtain⟨t,rfl⟩:=ru
 obtain⟨z,aA,n,r,hl,e⟩:=I.o7 hH
 have hlen:=r.length
 rw[Je] at hlen
 obtain⟨j,hj⟩:∃j,j=xs.idxOf y:=⟨_,rfl⟩
 have jl:j<xs.length:=by rw[hj];exact List.idxOf_lt_length_iff.mpr hy
 have jy:xs[j]=y:=by simp only[hj];exact List.getElem_idxOf (by rw[<-hj];exact jl)
 have jn:∀m (hm:m<xs.length),m<j->xs[m]≠y:=fun m hm hmj w=>by
  have:m<List.findIdx (· == y) xs:=by rw[hj] at hmj;exact hmj
  have:=List.not_of_lt_findIdx this
  rw[w] at this
  simp at this
 let ev:Value->Bool:=fun u=>match u with | .str a _=>a==y|_=>false
 have at':∀m (hm:m<aA.length),∃t',aA[m] = .str (xs[m]'(by omega)) t':=fun m hm=>by
  obtain⟨a,h1,h2⟩:=kR r (i:=m) (v:=aA[m]) (by simp[hm])
  rw[Jl,Jc (by omega)] at h1
  cases h1
  exact h2
 refine call_meets F.slot_list_remove ⟨_,e,rfl⟩ F.entry_list_remove (F.args_list_remove_2 _ _) (MeetsSeq.list_remove l aA.toArray n (.str y t) ev (fun w hw =>?_) j (by rw[Jr];omega) ?_ ?_ (by rw[Jr];omega)) ⟨e,?_⟩
 ·have hw:w∈aA:=by simpa using hw
  obtain⟨i,hi,ew⟩:=Yy.mp hw
  obtain⟨t',e'⟩:=at' i hi
  rw[<-ew,e']
  have z:=SeqRoads2.EqGives.str (xs[i]'(by omega)) y t' t
  rw[show((xs[i]'(by omega)).cps.toList==y.cps.toList)=((xs[i]'(by omega))==y) from by rw[Y3,beq_iff_eq,beq_iff_eq,Array.toList_inj];exact⟨fun q=>by generalize xs[i]'(by omega)=x at q ⊢;cases x;cases y;simp_all,fun q=>by rw[q]⟩] at z
  exact z
 ·obtain⟨t',e'⟩:=at' j (by omega)
  show ev aA[j]=true
  rw[e']
  show(xs[j]==y)=true
  rw[jy];simp
 ·intro m hm hmj
  have Dm:m<aA.length:=by rw[Jr] at hm;exact hm
  obtain⟨t',e'⟩:=at' m Dm
  show ev aA[m]=false
  rw[e']
  show(xs[m]==y)=false
  simpa using jn m (by omega) hmj
 ·have ex:(xs.map V.str).eraseIdx j=(xs.erase y).map V.str:=by
   rw[List.erase_eq_eraseIdx_of_idxOf (i:=j) hj.symm,Yt,Yt,Ue,List.map_take,List.map_drop]
  refine⟨.non,_,I.B2 (ys:=(xs.map V.str).eraseIdx j) (its':=aA.eraseIdx j) hH e ?_ (mW j r) (by rw[List.length_eraseIdx];split<;>omega),rfl,?_⟩
  ·simp[Array.eraseIdxIfInBounds,show j<aA.length by omega]
  ·exact q _ ⟨by rw[ex]⟩
end
section
variable {M:Model}{A:Around}{E:Value->Shared->Prop}{s:Shared}{env:Env}
variable {nm q:Str}{C N:Addr}{bs bm:List Value}{hdct:Bool}{sn:List Str}{sub:List Value}{ab:Bool}{col:Option Bool}{dd:Option Addr}{k0 k1 k2 k3 k5:Option Value}{newId:String}
theorem yT {x:Expr}{pos:Pos}{Q:Flow->Shared->Prop}(hh:A.handled=none)(hb:bm.contains (.type "BaseException")=true)
  (h:wpAny M A (eval x env) (fun v s1=>∃e o,v = .ref e/\s1.heap.get? C=some (excClassObj nm q C N bs bm hdct sn sub ab col dd k0 k1 k2 k3 k5 newId)/\s1.heap.get? e=some o/\o.cls = .ref C/\Raw o/\E (.ref e) s1) E s) :
  wpAny M A (exec (.Raise (some x) none pos) env) Q E s:=by
 have Vh:(Value.ref C::bm).contains (.type "BaseException")=true:=by rw[List.contains_cons,hb,Bool.or_true]
 rw[arm_exec_Raise]
 show wpAny M A (do standAt pos;raiseStmt env (some (do let v <-eval x env;standAt pos;pure v)) none) Q E s
 refine wpAny_bind (wpAny_standAt ?_)
 unfold raiseStmt
 refine wpAny_bind (wpAny_bind (wpAny_mono h (fun v s1 h1=>wpAny_bind (wpAny_standAt (wpAny_pure ?_))) fun _ _ z=>z))
 obtain⟨e,o,rfl,hC,he,hc,⟨t,hd⟩,hE⟩:=h1
 obtain⟨oc,od,odt,yo⟩:=o
 dsimp only at hc hd
 subst hc hd
 obtain⟨hp,g,d,tk,os⟩:=s1
 repeat (first|with_reducible refine wpAny_loadPart_at he ?_|with_reducible refine wpAny_loadPart_at hC ?_|(with_reducible refine wpAny_isSubtype_exc hC ?_;rw[Vh])|wp_step)
 exact wpAny_raiseNew_none hh hE
end
section
variable {P:Program}{w:World}{K:Ja}{mg:Str->Option Value}{base:Heap}{N:List Str}{qual:Str}{scope:Scope}{f:Addr}{cd:Value}{A:Around}{outer:List Env}{s0:Shared}{H0:Hp}{E:XK}
def Eu (C:Addr)(H0:Hp)(E:XK)(sp:Sp)(t:TA):TS:=fun _ σ H=>AQ C sp t σ H fun v H2=>∃e dx,v = .ref e/\H2 e=some (Aa e C dx)/\H0 e=none/\E (.ref C) (some dx) (oS H2 e)
theorem Ag {k:Nat}{fi C:Addr}{fd:FuncData}{ps:List Str}{sp:Sp}{x:Str}{p eg pos:Pos}{a:Expr}{as:List Expr}{t:TA}(M:Ld K C fi)(F:bC P w K mg base gG k fi fd ps sp)(hr:dw (k+1) (A.deeper (envOfC qual scope s0.heap.objs.size f cd)))
  (hg:Gl (kJ (uP P w base) P w K mg base N qual scope f cd A outer s0 H0 E) x) (hm:mg x=some (.ref C)) (hb:Binds K fd ps []) (ha:PA (kJ (uP P w base) P w K mg base N qual scope f cd A outer s0 H0 E) (a::as) t) (o8:(x==("__debug__" : Str))=false:=by decide)
  (he:starEach (a::as) (envOfC qual scope s0.heap.objs.size f cd)=(false,eval a (envOfC qual scope s0.heap.objs.size f cd))::starEach as (envOfC qual scope s0.heap.objs.size f cd):=by rfl) (rD:(backTo eg (starEach as (envOfC qual scope s0.heap.objs.size f cd))).any (·.1)=false:=by rfl) :
  PS (kJ (uP P w base) P w K mg base N qual scope f cd A outer s0 H0 E) (.Raise (some (.Call (.Name x p) (a::as) [] eg)) none pos) (Eu C H0 E sp t):=by
 intro pins s σ H D I h
 obtain⟨nm,qn,Nn,bs,Db,hdct,sn,sub,ab,col,dd,k0,k1,k2,k3,k5,lk,TL⟩:=id M.cl
 have ev:=Ce (X:=kJ (uP P w base) P w K mg base N qual scope f cd A outer s0 H0 E) (pos:=eg) (p:=p) M F hr hg hm hb ha rfl o8 he rD s σ H _ I h
 refine yT (C:=C) (nm:=nm) (q:=qn) (N:=Nn) (bs:=bs) (bm := .ref Db::dZ) (hdct:=hdct) (sn:=sn) (sub:=sub) (ab:=ab) (col:=col) (dd:=dd) (k0:=k0) (k1:=k1) (k2:=k2) (k3:=k3) (k5:=k5) (newId := "ValueError.__new__")
  (I.ok.hd rfl) (by simp[dZ]) (bG ev fun v s1 ⟨y,H1,I1,ry,e,dx,ey,ee,h0,hE⟩=>?_)
 subst ey
 obtain rfl:v=Value.ref e:=ry
 obtain⟨ob,b1,b2,b3,b4⟩:=(show bt P w H1 s1.heap e (Aa e C dx) from I1.bB e _ ee).1
 obtain⟨t0,b5⟩:=id b4
 have ub:Un (fK outer) [] H0 H1 s0.heap s1.heap:=I1.base
 refine⟨e,ob,rfl,I1.iA _ _ lk,b1,b2,b4,wX (t:=t0) I1 b1 ?_ b5 rfl rfl (.inr ⟨_,ee⟩) (by rw[b2,b3];exact hE)⟩
 cases z:s0.heap.get? e with
 | none=>rfl
 | some o=>
  have:=ub.free e o z h0 (by simp)
  rw[ee] at this;cases this
end
section
variable {X:Cx}
def GP (K:Frag)(to:TE)(f:Str):TE:=fun σ H Q=>to σ H fun x H1=>∃e C dx fs v,x = .ref e/\H1 e=some (kn e (.ref C) (some dx))/\H1 dx=some (.xd fs)/\fs.lookup f=some v/\iM K C/\mq K C f/\((∃i,v = .int i)∨∃z,v = .str z)/\Q v H1
theorem oC {o:Expr}{f:Str}{to:TE}{pos:Pos}(K:Frag)(ho:PE X o to)(hb:attributeBase o f X.env (eval o X.env)=eval o X.env:=by rfl)(hK:X.K=K:=by rfl):PE X (.Attribute o f pos) (GP K to f):=by
 subst hK
 intro pins s σ H Q I h
 refine ye hb (bG (ho s σ H _ I h) fun ov s1 hz_ =>?_)
 refine aj.el hz_ _ ?_
 clear hz_
 rintro x H1 I1 rx ⟨e,C,dx,fs,v,ex,ee,ed,el,O,S,hv,q⟩
 subst ex
 obtain rfl:ov=Value.ref e:=rx
 obtain⟨ob,b1,b2,b3,b4⟩:=(show bt X.prog X.w H1 s1.heap e (LU e (.ref C) dx) from I1.bB e _ ee).1
 obtain⟨mA,n1,n2⟩:=I1.bB dx _ ed
 obtain⟨od,c1,c2⟩:=pZ n1
 have hf:=n2 f
 rw[el] at hf
 cases hm:mA f with
 | none=>rw[hm] at hf;exact hf.elim
 | some u=>
  rw[hm] at hf
  have ru:RelV v u:=hf
  refine A7 I1.iA O S b1 b2 b3 b4 c1 (by rw[c2,hm]) ?_ ⟨v,H1,I1.tok _,ru,q⟩
  rcases hv with ⟨i,rfl⟩|⟨z,rfl⟩
  ·obtain⟨t,rfl⟩:=ru;rfl
  ·obtain⟨t,rfl⟩:=ru;rfl
theorem Bl {P:Program}{w:World}{H:Hp}{h:Heap}{e C:Addr}{dx:Option Addr}(x:bt P w H h e (kn e (.ref C) dx)):ExcAt e C h:=by
 cases dx with
 | none=>exact x.1
 | some d=>obtain⟨o,a,b,_⟩:=x.1;exact⟨o,a,b⟩
def QD (K:Frag):List V->Hp->VK->Prop:=fun xs H Q=>wL fun(e C:Addr) (dx:Option Addr) (c:V) (cv:Value) (b:Bool)=>xs=[.ref e,c]/\H e=some (kn e (.ref C) dx)/\iM K C/\Lf c=some cv/\kitOne K (.ref C) cv=some b/\Q (.bl b) H
theorem oY (K:Frag)(hK:X.K=K:=by rfl):bN X (.builtin "isinstance") (QD K):=by
 subst hK
 intro pins s σ H xs us Q I r h
 obtain⟨e,C,dx,c,cv,b,rfl,hE,O,hc,hk,q⟩:=h
 obtain⟨u,w',rfl,r1,r2⟩:=vals2 r
 cases r1
 have hx:=Bl (I.bB e _ hE)
 have ew:w'=cv:=by
  cases c<;>simp[Lf] at hc
  ·subst hc;cases r2;rfl
  ·subst hc;cases r2;rfl
 subst ew
 exact kia_one (Cz O) I.iA hx hk (fun z=>nomatch z) fun tk=>⟨.bl b,H,I.tok _,rfl,q⟩
end
theorem cS {h h':Heap}{it:Addr}{ty:String}{z:Str}{t:Tok}{i:Nat}(x:h.IsStrIter it ty z t i)(k:∀o,h.get? it=some o->h'.get? it=some o):h'.IsStrIter it ty z t i:=
 let ⟨o,a,r⟩:=x; ⟨o,k o a,r⟩
section
variable {X:Cx}{L:Addr}{pins:List (Addr×Obj)}{σ:St}{H:Hp}{s:Shared}
theorem BC {X:Cx}{tg l:Expr}{w1 w2:TI}(h1:PI X tg l w1)(h2:PI X tg l w2):PI X tg l (fun σ H R=>w1 σ H R∨w2 σ H R):=fun pins s σ H R I h=>h.elim (h1 s σ H R I) (h2 s σ H R I)
end
open Builtin.Str
theorem kF:∀(tk:Nat) (xs:List Str),Vals (xs.map V.str) (strValues (numbered tk xs))
 | _,[] =>.nil
 | tk,x::r =>.cons ⟨tk,rfl⟩ (kF (tk+1) r)
section
variable {X:Cx}
theorem wO:FJ X "str.split" (fun x vs H Q=>fE fun a b=>x = .str a/\vs=[.str b]/\b.length≠0/\a.length<=10000000/\(Txt.split a b).length<=10000000/\∀p H',gJ H p (.lst ((Txt.split a b).map V.str)) H'->Q (.ref p) H'):=by
 intro pins s σ H x vs v us Q I rx rv h
 obtain⟨a,b,rfl,rfl,hb,ha,hn,q⟩:=h
 obtain⟨t,rfl⟩:=rx
 obtain⟨u,rfl,t',rfl⟩:=rv.one
 have rZ:(b.length==0)=false:=by simpa using hb
 have new:∀(tk:Nat) (aA:List Value),Vals ((Txt.split a b).map V.str) aA->EP X pins σ Q (.ref s.heap.objs.size) { s with toks:=tk,heap:=s.heap.push { cls := .type "list",data := .seq aA.toArray } }:=fun tk aA r=>
  ⟨.ref _,_,I.laid (a:=s.heap.objs.size) (o := .lst ((Txt.split a b).map V.str)) (t':=tk) (fun _ _ e=>Jb _ e) (Jd _) ⟨by rw[Je];exact Jg hn (by decide),aA,0,r,Ji _ rfl⟩,rfl,q _ _ ⟨I.bB.fresh (Jd _),rfl⟩⟩
 have self:Txt.split a b=[a]->Vals ((Txt.split a b).map V.str) [.str a t]:=fun e=>by rw[e];exact .cons ⟨t,rfl⟩ .nil
 by_cases h1:(decide (a.length<b.length)||decide (strKind a<strKind b))=true
 ·exact call_meets F.slot_str_split (typeIs_str _ _ _) F.entry_str_split (F.args_str_split_2 _ _) (meets_str_split_cannot_occur a b t t' h1) (new s.toks _ (self (if_pos h1)))
 have IW:=Uv.mpr h1
 by_cases hf:(occurrences a b 0 a.length (a.length+1)).isEmpty=true
 ·exact call_meets F.slot_str_split (typeIs_str _ _ _) F.entry_str_split (F.args_str_split_2 _ _) (meets_str_split_not_found a b t t' IW rZ hf) (new s.toks _ (self ((if_neg h1).trans (if_pos hf))))
 have e:Txt.split a b=partsBetween a (occurrences a b 0 a.length (a.length+1)) b.length:=(if_neg h1).trans (if_neg hf)
 refine call_meets F.slot_str_split (typeIs_str _ _ _) F.entry_str_split (F.args_str_split_2 _ _) (meets_str_split_sep a b t t' IW rZ (Uv.mpr hf) (Jg ha (by decide)) (by rw[<-e];exact Jg hn (by decide))) ?_
 refine new _ _ ?_
 rw[<-e,strsFrom_eq]
 exact kF _ _
end
section
variable {prog:Program}{w:World}{A:Around}{E:Value->Shared->Prop}{s:Shared}
theorem vo {l:Addr}{o:Obj}{vs:List Value}{n:Nat}{Q:List Value->Shared->Prop}(ho:s.heap.get? l=some o)(hc:o.cls = .type "tuple")(hd:o.data = .seq vs.toArray n)(hz:vs.length<=sizeLine)
  (h:Q vs { s with heap:=(s.heap.push (seqObj "list" #[] 0)).update s.heap.objs.size (Obj.mapSeq (· ++ vs.toArray)) }):wpAny (model prog w) A (collect (.ref l)) Q E s:=by
 unfold collect
 have Si:(s.heap.push (seqObj "list" #[] 0)).get? l=some o:=Jb _ ho
 have hn:(s.heap.push (seqObj "list" #[] 0)).get? s.heap.objs.size=some (seqObj "list" #[] 0):=Ji _ rfl
 refine wpAny_bind (wpAny_runValue (codeAny_builtin entry_proto_collect' ?_))
 refine wpAny_bind (wpAny_newList (wpAny_pure ⟨Code.quiet_builtin _ (by decide +kernel),codeAny_builtin entry_list_iadd' ?_⟩))
 show wpAny _ _ (Builtin.List.listExtendWith (.ref s.heap.objs.size) (.ref l) (.ref s.heap.objs.size)) _ _ { s with heap:=s.heap.push (seqObj "list" #[] 0) }
 unfold Builtin.List.listExtendWith
 refine wpAny_bind (wpAny_typeOf (T := "tuple") ⟨o,Si,hc⟩ ?_)
 rw[if_pos (by simp)]
 refine wpAny_bind (listItems_at Si hd (wpAny_bind (listItems_at hn rfl ?_)))
 rw[if_neg (by simp)]
 have room:((#[]:Array Value)++vs.toArray).size<=sizeLine+1:=by rw[Array.size_append,Jr];exact Jg (by show 0+vs.length<=vs.length;omega) (Nat.le_succ_of_le hz)
 refine wpAny_bind (listUpdate_at hn rfl (wpAny_pure (wpAny_bind (wpAny_load (get?_update_seq hn _) ?_))) (Uw _) room)
 have e:((#[]:Array Value)++vs.toArray).toList=vs:=by simp
 refine wpAny_pure ?_
 rw[e]
 exact h
theorem vS {l:Addr}{o:Obj}{vs:List Value}{n:Nat}{ss:List Str}{Q:Value->Shared->Prop}(ho:s.heap.get? l=some o)(hc:o.cls = .type "tuple")(hd:o.data = .seq vs.toArray n)(hS:StrsAre vs ss)(pA:vs.length<64)
  (h:∀(out:Array Value) (ms:List Str),StrsAre out.toList ms->ms.Perm ss->PyProof.Rows.sortedS ms=true->Q (.ref (s.heap.objs.size+1)) { s with heap:=sortedAll s.heap vs out }):wpAny (model prog w) A (call (.builtin "sorted") [.ref l]) Q E s:=by
 have k1:((s.heap.push (seqObj "list" #[] 0)).update s.heap.objs.size (Obj.mapSeq (· ++ vs.toArray))).objs.size=s.heap.objs.size+1:=(Heap.size_update ..).trans (size_push' _ _)
 have k2:(((s.heap.push (seqObj "list" #[] 0)).update s.heap.objs.size (Obj.mapSeq (· ++ vs.toArray))).push (seqObj "list" vs.toArray 0)).get? _=some (seqObj "list" vs.toArray 0):=Ji _ rfl
 have hz:vs.length<=sizeLine:=Jg (Uz pA) (by decide)
 refine Calls.call_function_entry kind_sorted plain_sorted entry_sorted (args_sorted1 _) ?_
 unfold Builtin.«sorted»
 refine wpAny_bind (m:=checkCount "sorted" 1 1 _) (wpAny_pure (wpAny_bind (vo ho hc hd hz (wpAny_bind (wpAny_newList ?_)))))
 rw[k1] at k2
 show wpAny _ _ _ _ _ { s with heap:=Heap.push _ (seqObj "list" vs.toArray 0) }
 rw[k1]
 refine wpAny_bind (wpAny_holding (wpAny_call_entry slot_list_sort ⟨_,k2,rfl⟩ entry_list_sort (list_sort_treeK strKind_oneLt k2 hS.keysOf (fun v₁ v₂ rest e=>keyKind_strs (by rw[<-e];exact hS)) pA fun st a1 a2=>⟨_,rfl,wpAny_pure ⟨_,rfl,?_⟩⟩) (args_list_sort _)))
 obtain⟨ms,h1,h2,h3⟩:=sorted_out_str hS a1 a2
 exact h _ ms h1 h2 h3
end
section
variable {X:Cx}(K:Ja)
theorem Bf (hK:X.K=K:=by rfl):bN X (.builtin "sorted") (fun xs H Q=>∃(p:Addr) (ss:List Str),xs=[.ref p]/\cE K H p (ss.map V.str)/\ss.length<64 /\
  ∀(ms:List Str) (q:Addr) (H':Hp),ms.Perm ss->PyProof.Rows.sortedS ms=true->gJ H q (.lst (ms.map V.str)) H'->Q (.ref q) H'):=by
 subst hK
 intro pins s σ H xs us Q I r h
 obtain⟨p,ss,rfl,hq,hl,q⟩:=h
 obtain⟨u,rfl,ru⟩:=vals1 r
 cases ru
 obtain⟨aA,rv,⟨o,ho,hc,n,hd⟩,hz⟩:=I.tuple hq
 have hn:aA.length=ss.length:=by have:=rv.length;rw[Je] at this;exact this.symm
 refine vS ho hc hd (ij rv) (by omega) fun out ms a1 a2 a3 =>?_
 obtain⟨e,he⟩:=sortedAll_at s.heap aA out
 have hm:ms.length=ss.length:=a2.length_eq
 refine⟨.ref (s.heap.objs.size+1),_,I.laid (a:=s.heap.objs.size+1) (o := .lst (ms.map V.str)) (t':=s.toks) (fun _ _=>sortedAll_old) (U1 _) ⟨?_,out.toList,e,kc a1,?_⟩,rfl,q ms _ _ a2 a3 ⟨I.bB.fresh (U1 _),rfl⟩⟩
 ·rw[Je];exact Jg (show ms.length<=64 by omega) (by decide)
 ·simpa [seqObj] using he
theorem i7 (hK:X.K=K:=by rfl):bN X (.builtin "sorted") (fun xs H Q=>∃(p:Addr) (ss:List Str),xs=[.ref p]/\(aM K H p (ss.map V.str)∨cE K H p (ss.map V.str))/\ss.length<64 /\
  ∀(ms:List Str) (q:Addr) (H':Hp),ms.Perm ss->PyProof.Rows.sortedS ms=true->gJ H q (.lst (ms.map V.str)) H'->Q (.ref q) H'):=by
 intro pins s σ H xs us Q I r h
 obtain⟨p,ss,e,hq,hl,q⟩:=h
 rcases hq with hq|hq
 ·exact L2.sortedS K hK s σ H xs us Q I r ⟨p,ss,e,hq,hl,q⟩
 ·exact Bf K hK s σ H xs us Q I r ⟨p,ss,e,hq,hl,q⟩
end
theorem AN:typeLookup (.type "tuple") "keys" = pure none:=by rw[typeLookup_type,builtinLookup_eq_fast];kernel_rfl
theorem Hd:typeLookup (.type "tuple") "__getattr__" = pure none:=by rw[typeLookup_type,builtinLookup_eq_fast];kernel_rfl
section
variable {prog:Program}{w:World}{A:Around}{E:Value->Shared->Prop}{h:Heap}{g:Array GenState}{d:Drawn}{t:Nat}{os:OsState}{a:Addr}{o:Obj}
theorem tV {tk:Tok}{Q:Fin->Shared->Prop}(hx:h.get? a=some o)(hc:o.cls = .type "tuple")(oE:o.dict=none){xs:Array Value}{n:Nat}(hd:o.data = .seq xs n)(hh:A.handled=none)
  (hq:∀e h' t',(∀b o,h.get? b=some o->h'.get? b=some o)->(∃oe,h'.get? e=some oe/\oe.cls = .type "AttributeError")->E (.ref e) ⟨h',g,d,t',os⟩) :
  wpAny (model prog w) A (Builtin.«object.__getattribute__» ⟨[.ref a,.str "keys" tk],[]⟩) Q E ⟨h,g,d,t,os⟩:=by
 have hT:(⟨h,g,d,t,os⟩:Shared).TypeIs (.ref a) "tuple":=⟨_,hx,hc⟩
 have f4:=AN
 repeat (any_goals (first|assumption|wp_step))
 rw[hd]
 dsimp only
 unfold instanceDict
 repeat (any_goals (first|assumption|wp_step))
 rw[oE,hc]
 repeat (any_goals (first|assumption|wp_step))
 have f9:=lA
 unfold raiseAttrError noteAttr
 wp_walk
 rw[show(Manifest.find? "AttributeError").elim false (fun t=>t.mro.contains "StopIteration" || t.mro.contains "SystemExit")=false by decide +kernel,if_neg Jt]
 repeat (any_goals (first|assumption|wp_step))
 refine wpAny_raiseNew_none hh (hq _ _ _ (fun b o' x =>?_) ⟨_,Jz _ (Ji _ rfl) rfl,rfl⟩)
 have x1:=Jb (h:=h) { cls:=Value.type "tuple",data:=Data.seq #[Value.str (Str.ofString (toString "'" ++ toString ((Manifest.find? "tuple").elim "tuple" fun x=>x.tpName)++toString "' object has no attribute '")++Str.ofString "keys" ++ Str.ofString "'") t] } x
 rw[Ua _ _ (Uk (Jf x1))]
 exact Jb _ x1
theorem v8 {tk:Tok}{R:Result->Shared->Prop}(hx:h.get? a=some o)(hc:o.cls = .type "tuple")(oE:o.dict=none){xs:Array Value}{n:Nat}(hd:o.data = .seq xs n)(hh:A.handled=none)
  (hq:∀e h' t',(∀b o,h.get? b=some o->h'.get? b=some o)->(∃oe,h'.get? e=some oe/\oe.cls = .type "AttributeError")->R (.error (.ref e)) ⟨h',g,d,t',os⟩) :
  codeAny (model prog w) A (.call (.builtin "tuple.__getattribute__") ⟨[.ref a,.str "keys" tk],[]⟩) R ⟨h,g,d,t,os⟩:=
 codeAny_call_builtin F.slot_tuple_getattribute.plain F.entry_tuple_ga (F.slot_tuple_getattribute.check _ _ _ _ _ _ _ _ (show(⟨h,g,d,t,os⟩:Shared).TypeIs (.ref a) "tuple" from⟨_,hx,hc⟩) (F.args_tuple_getattribute_2 _ _) (tV hx hc oE hd hh hq))
theorem vb {Q:Option Value->Shared->Prop}(hx:h.get? a=some o)(hc:o.cls = .type "tuple")(oE:o.dict=none){xs:Array Value}{n:Nat}(hd:o.data = .seq xs n)(hh:A.handled=none)
  (hq:∀h' t',(∀b o,h.get? b=some o->h'.get? b=some o)->Q none ⟨h',g,d,t',os⟩):wpAny (model prog w) A (getAttr? (.ref a) "keys") Q E ⟨h,g,d,t,os⟩:=by
 have hT:(⟨h,g,d,t+1,os⟩:Shared).TypeIs (.ref a) "tuple":=⟨_,hx,hc⟩
 have f2:=F.slot_tuple_getattribute.lookup
 have f3:=F.slot_tuple_getattribute.bind (.ref a)
 have f4:=Hd
 unfold getAttr? getAttrBy?
 repeat (any_goals (first|assumption|wp_step))
 refine v8 hx hc oE hd hh fun e h' t' k hoe =>?_
 have L6:Shared.TypeIs ⟨h',g,d,t',os⟩ (.ref e) "AttributeError":=hoe
 have f5:=lA
 dsimp only
 unfold getattributeRaised
 refine wpAny_bind (wpAny_isInstance (T := "AttributeError") (b:=true) L6 f5 ?_)
 rw[if_pos rfl]
 unfold hookBehind
 repeat (any_goals (first|assumption|wp_step))
 exact hq h' t' k
end
section
variable {prog:Program}{w:World}{K:Type}[DecidableEq K]{knd:KeyKind prog w K}{A:Around}{E:Value->Shared->Prop}
theorem mj {s:Shared}{R:Result->Shared->Prop}{it l d:Addr}{items:Array Value}{kvs:List (K×Value)}{g:Heap}(hh:A.in1.handled=none)(hl:g.IsTuple l items)(hn:items.size=kvs.length)(hz:kvs.length<=100000)
  (hp:∀(j:Nat) v kv,items[j]? = some v->kvs[j]? = some kv->jU knd g v kv) (lit:∀b o,g.get? b=some o->b≠it/\b≠d) (ne:d≠it)
  (fin:∀h tk,(∀b o,b≠d->b≠it->g.get? b=some o->h.get? b=some o)->h.DictOf knd d (merged [] kvs)->R (.ok (.ret .none)) { s with heap:=h,toks:=tk }) :
  ∀(k i:Nat) (h:Heap) (tk:Nat) (acc:List (K×Value)),i+k=kvs.length->acc.length<=i->merged acc (kvs.drop i)=merged [] kvs->(∀b o,b≠d->b≠it->g.get? b=some o->h.get? b=some o)->h.IsTupleIter it l i->h.DictOf knd d acc ->
   codeAny (model prog w) A (.builtin "dict.update.loop" ⟨[.ref d,.ref it,rawInt i,.none],[]⟩) R { s with heap:=h,toks:=tk }
 | 0,i,h,tk,acc,hk,ha,hm,kp,hi,hd=>by
  have e:i=kvs.length:=by omega
  subst e
  have zN:h.IsTuple l items:=by
   obtain⟨o,ho,r⟩:=hl
   exact⟨o,kp _ _ (lit _ _ ho).2 (lit _ _ ho).1 ho,r⟩
  refine codeAny_builtin cB ?_
  rw[Around.under_plainId bf _]
  unfold Builtin.«dict.update.loop»
  refine wpAny_bind (wpAny_pyNext_tuple_end (s:={ s with heap:=h,toks:=tk }) hh hi zN (by rw[Yl (by omega)]) fun h' eb =>?_)
  refine wpAny_bind (m:=Builtin.Dict.addKeywords d []) (wpAny_pure (wpAny_pure ?_))
  refine fin h' tk (fun b o nd ni x=>eb b o ni (kp b o nd ni x)) ?_
  rw[List.drop_length] at hm
  have hm:acc=merged [] kvs:=hm
  rw[<-hm]
  obtain⟨o,es,ep,ho,r⟩:=hd
  exact⟨o,es,ep,eb _ _ ne ho,r⟩
 | k+1,i,h,tk,acc,hk,ha,hm,kp,hi,hd=>by
  have ji:i<kvs.length:=by omega
  have zN:h.IsTuple l items:=by
   obtain⟨o,ho,r⟩:=hl
   exact⟨o,kp _ _ (lit _ _ ho).2 (lit _ _ ho).1 ho,r⟩
  have hit:items[i]? = some items[i]:=Ui (by omega)
  obtain⟨tp,o,n,ku,ev,ho,hc,vK,hkey⟩:=hp i _ _ hit (Jc ji)
  refine codeAny_builtin cB ?_
  rw[Around.under_plainId bf _]
  unfold Builtin.«dict.update.loop»
  refine wpAny_bind (wpAny_pyNext_tuple_item (s:={ s with heap:=h,toks:=tk }) hi zN hit fun h1 hi1 C3 =>?_)
  rw[ev]
  have Fy:h1.get? tp=some o:=C3.extBut _ _ (lit _ _ ho).1 (kp _ _ (lit _ _ ho).2 (lit _ _ ho).1 ho)
  have Df:h1.DictOf knd d acc:=by
   obtain⟨o,es,ep,ho,r⟩:=hd
   exact⟨o,es,ep,C3.extBut _ _ ne ho,r⟩
  have hT:Shared.TypeIs { s with heap:=h1,toks:=tk } (.ref tp) "tuple":=⟨o,Fy,hc⟩
  refine wpAny_bind (wpAny_holding ?_)
  refine wpAny_bind (wpAny_tryCatch ?_)
  unfold Builtin.Dict.pairItems
  refine wpAny_bind (wpAny_typeOf hT ?_)
  rw[if_pos (by decide)]
  refine wpAny_bind (wpAny_seqItems (s:={ s with heap:=h1,toks:=tk }) Fy vK (wpAny_pure ?_))
  refine wpAny_holding (wpAny_dictSet_pairs (s:={ s with heap:=h1,toks:=tk }) hkey Df (fun h2 hd2 sb2 =>?_) (Jg (show acc.length<=100000 by omega) (by decide)))
  refine wpAny_pure ⟨plainId_quiet bf _,?_⟩
  have:=mj hh hl hn hz hp lit ne fin k (i+1) h2 (tk+1) (stored acc kvs[i].1 kvs[i].2) (by omega) ?_ ?_ (fun b o nd ni x=>sb2.extBut b o nd (C3.extBut b o ni (kp b o nd ni x))) ?_ hd2
  ·exact this
  ·refine Jg ?_ (Y9 ha)
   unfold stored
   split
   ·rw[Je];exact U1 _
   ·rw[Jq];exact Jd _
  ·rw[<-hm,List.drop_eq_getElem_cons ji]
   rfl
  ·obtain⟨oi,e1,r⟩:=hi1
   exact⟨oi,sb2.extBut _ _ (Ne.symm ne) e1,r⟩
theorem sE {s:Shared}{Q:Value->Shared->Prop}{l:Addr}{items:Array Value}{kvs:List (K×Value)}{ol:Obj}{n:Nat}(hh:A.handled=none)(ho:s.heap.get? l=some ol)(hc:ol.cls = .type "tuple")(oE:ol.dict=none)(hd:ol.data = .seq items n)(hn:items.size=kvs.length)(hz:kvs.length<=100000)
  (hp:∀(j:Nat) v kv,items[j]? = some v->kvs[j]? = some kv->jU knd s.heap v kv)
  (fin:∀h tk,(∀b o,s.heap.get? b=some o->h.get? b=some o)->h.DictOf knd s.heap.objs.size (merged [] kvs)->Q (.ref s.heap.objs.size) { s with heap:=h,toks:=tk }) :
  wpAny (model prog w) A (call (.type "dict") [.ref l]) Q E s:=by
 refine callType_codes (Q₁:=fun obj s₁=>obj = .ref s.heap.objs.size/\s₁={ s with heap:=s.heap.push { cls := .type "dict",data := .dict #[] } }) F.kt_called_dict (F.kt_typeCall_dict_1 _) F.entry_dict_init (kt_code_dict_new _ ⟨rfl,rfl⟩) ?_
 rintro obj s1 ⟨rfl,rfl⟩
 have new:(s.heap.push { cls := .type "dict",data := .dict #[] }).DictOf knd s.heap.objs.size []:=Heap.DictOf.new s.heap
 have k0:∀b o,s.heap.get? b=some o->(s.heap.push { cls := .type "dict",data := .dict #[] }).get? b=some o:=fun b o x=>Jb _ x
 refine⟨new.typeIs,F.args_dict_init_2 _ _,?_⟩
 unfold Builtin.«dict.__init__» Builtin.Dict.selfAndRest
 refine wpAny_bind (wpAny_bind (wpAny_notOrdered_dict new.typeIs ?_))
 show wpAny _ _ (pure (s.heap.objs.size,[Value.ref l])) _ _ _
 refine wpAny_pure ?_
 show wpAny _ _ (Builtin.Dict.updateFrom "dict.__init__" s.heap.objs.size (.ref l) [] .none) _ _ _
 unfold Builtin.Dict.updateFrom
 have hT:Shared.TypeIs { s with heap:=s.heap.push { cls := .type "dict",data := .dict #[] } } (.ref l) "tuple":=⟨ol,k0 _ _ ho,hc⟩
 refine wpAny_bind (wpAny_typeOf hT ?_)
 rw[if_pos (by decide)]
 refine wpAny_bind (vb (h:=s.heap.push { cls := .type "dict",data := .dict #[] }) (k0 _ _ ho) hc oE hd hh fun h1 t1 k1 =>?_)
 rw[if_pos (by rfl)]
 have kk:∀b o,s.heap.get? b=some o->h1.get? b=some o:=fun b o x=>k1 b o (k0 b o x)
 refine wpAny_bind (wpAny_rule (wpAny_bind (wpAny_pyIter_tuple (t:=l) (items:=items) ⟨ol,kk _ _ ho,hc,n,hd⟩ ?_)))
 have hS:s.heap.objs.size<h1.objs.size:=by
  obtain⟨o,es,ep,e,_⟩:=new
  exact Jf (k1 _ _ e)
 refine wpAny_pure ⟨plainId_quiet bf _,?_⟩
 have low:∀b o,s.heap.get? b=some o->b≠h1.objs.size/\b≠s.heap.objs.size:=fun b o x=>⟨Jk (Jf (kk b o x)),Jk (Jf x)⟩
 refine mj (s:=s) (knd:=knd) (A:=A.in1) (it:=h1.objs.size) (g:=s.heap) (kvs:=kvs) hh ⟨ol,ho,hc,n,hd⟩ hn hz hp low (Jk hS) (fun h tk k dd=>⟨rfl,fin h tk (fun b o x=>k b o (low b o x).2 (low b o x).1 x) dd⟩) kvs.length 0 _ _ [] (by omega) (Jd _) rfl (fun b o nd ni x=>Jb _ (kk b o x)) ⟨_,Ji _ rfl,rfl,rfl⟩ ?_
 obtain⟨o,es,ep,e,r⟩:=new
 exact⟨o,es,ep,Jb _ (k1 _ _ e),r⟩
end
section
variable {X:Cx}{pins:List (Addr×Obj)}{σ:St}{H:Hp}{s:Shared}
theorem II (K:Ja)(hc:X.calm=true)(hK:X.K=K:=by rfl):bN X (.type "dict") (fun xs H Q=>∃(p:Addr) (as:List Addr) (kvs:List (Key×V)),xs=[.ref p]/\cE K H p (as.map V.ref)/\as.length=kvs.length/\kvs.length<=100000 /\
  (∀(j:Nat) b kv,as[j]? = some b->kvs[j]? = some kv->cE K H b [kV kv.1,kv.2])/\∀d H',gJ H d (.dK (cK [] kvs)) H'->Q (.ref d) H'):=by
 subst hK
 intro pins s σ H xs us Q I r h
 obtain⟨p,as,kvs,rfl,hp,hl,hz,ht,q⟩:=h
 obtain⟨u,rfl,ru⟩:=vals1 r
 cases ru
 obtain⟨aA,rv,⟨o,e1,e3,e2,n,e4⟩,_⟩:=I.gz hp
 obtain⟨vs,kv,pa⟩:=qh I _ hl ht
 have hits:=jS rv
 have kl:=kv.length
 refine sE (knd:=bA X.prog X.w) (kvs:=vs) (I.ok.hd hc) e1 e2 e3 e4 (by rw[hits];simp;omega) (by omega) (fun j v kw h1 h2 =>?_) fun h1 tk k1 dd =>?_
 ·rw[hits] at h1
  simp only[List.getElem?_toArray,Jl] at h1
  cases e:as[j]? with
  | none=>rw[e] at h1;cases h1
  | some b=>rw[e] at h1;cases h1;exact pa j b kw e h2
 ·have ml:=dq kvs []
  have big:=I.big
  refine⟨.ref s.heap.objs.size,_,I.laid (a:=s.heap.objs.size) (o := .dK (cK [] kvs)) (t':=tk) k1 (Jd _) ⟨Jg (show _<=100000 by simp at ml;omega) (by decide),?_,_,KV.merge kv .nil,dd⟩,rfl,q _ _ ⟨I.bB.fresh (Jd _),rfl⟩⟩
  exact beq_eq_false_iff_ne.mpr (Uk big)
theorem CP (K:Ja)(hc:X.calm=true)(hK:X.K=K:=by rfl):bN X (.type "dict") (fun xs H Q=>∃(p:Addr) (as:List Addr) (kvs:List (Key×V)),xs=[.ref p]/\(aM K H p (as.map V.ref)∨cE K H p (as.map V.ref))/\as.length=kvs.length/\kvs.length<=100000 /\
  (∀(j:Nat) b kv,as[j]? = some b->kvs[j]? = some kv->cE K H b [kV kv.1,kv.2])/\∀d H',gJ H d (.dK (cK [] kvs)) H'->Q (.ref d) H'):=by
 intro pins s σ H xs us Q I r h
 obtain⟨p,as,kvs,e,hp,hl⟩:=h
 rcases hp with hp|hp
 ·exact FD K hc hK s σ H xs us Q I r ⟨p,as,kvs,e,hp,hl⟩
 ·exact II K hc hK s σ H xs us Q I r ⟨p,as,kvs,e,hp,hl⟩
theorem HJ (hc:X.calm=true):bN X (.type "list") (fun xs H Q=>rX fun(d:Addr) (es:Array DictEntry) (n:Nat) (kvs:List (Str×Value))=>xs=[.ref d]/\xr X.K X.prog X.w d es n kvs/\kvs.length<=1000/\∀p H',gJ H p (.lst ((kvs.map (·.1)).map V.str)) H'->Q (.ref p) H'):=by
 intro pins s σ H xs us Q I r h
 obtain⟨d,es,n,kvs,rfl,D,pA,q⟩:=h
 obtain⟨u,rfl,ru⟩:=vals1 r
 cases ru
 refine kdl_call (kdl_dict (knd:=PySem.strKind X.prog X.w) (kvs:=kvs) (ep:=n) D.ns) (I.ok.hd hc) (D.at I.iA) (Jg pA (by decide)) fun h' tk acc c k hS items =>?_
 refine⟨.ref s.heap.objs.size,_,I.laid (a:=s.heap.objs.size) (o := .lst ((kvs.map (·.1)).map V.str)) (t':=tk) k (Jd _) ⟨by rw[Je,Je];exact Jg pA (by decide),acc.toList,c,?_,by simpa using hS⟩,rfl,q _ _ ⟨I.bB.fresh (Jd _),rfl⟩⟩
 have hi:∀(j:Nat) v,acc.toList[j]? = some v->∃k x,kvs[j]? = some (k,x)/\(PySem.strKind X.prog X.w).is k v=true:=fun j v ej=>items.2 j v (by rw[<-Array.getElem?_toList];exact ej)
 have hl:acc.toList.length=kvs.length:=by rw[U6];exact items.1
 generalize acc.toList=aA at hi hl
 clear D items q pA
 induction kvs generalizing aA with
 | nil=>rw[Yz hl];exact .nil
 | cons p kvs ih=>
  cases aA with
  | nil=>cases hl
  | cons v aA=>
   refine .cons ?_ (ih aA (fun j u e=>hi (j+1) u e) (Nat.succ.inj hl))
   obtain⟨k,x,e1,e2⟩:=hi 0 v rfl
   cases e1
   obtain⟨t,e3⟩:=Value.isStrOf_shape e2
   exact⟨t,e3⟩
end
section
variable {X:Cx}
theorem oO:∀{xs:List Bool} {aA:List Value},Vals (xs.map V.bl) aA->aA=xs.map Value.bool
 | [],_,h=>by cases h;rfl
 | b::xs,_,h=>by
  cases h with
  | cons r1 r2=>rw[Ub,oO r2,show _=Value.bool b from r1]
noncomputable def CH:Value->Bool
 | .bool b=>b==true
 | _=>false
theorem Hw:DJ X "list.count" (fun x vs H Q=>∃(l:Addr) (xs:List Bool),x = .ref l/\vs=[.bl true]/\H l=some (.lst (xs.map V.bl))/\Q (.int (xs.countP (· == true):Nat)) H):=by
 intro pins s σ H x vs v us Q I rx rv h
 obtain⟨l,xs,rfl,rfl,hH,q⟩:=h
 cases rx
 obtain⟨u,rfl,ru⟩:=vals1 rv
 cases ru
 obtain⟨z,aA,n,r,hl,e⟩:=I.o7 hH
 obtain rfl:=oO r
 refine call_meets F.slot_list_count ⟨_,e,rfl⟩ F.entry_list_count (F.args_list_count_2 _ _) (SeqAt.list_countAt l _ n none #[] (.bool true) CH) ⟨e,fun w hw =>?_,?_⟩
 ·have hw:w∈xs.map Value.bool:=by simpa using hw
  obtain⟨b,_,rfl⟩:=Ur.mp hw
  exact SeqAt.EqAt.bool_bool b true
 ·have ec:(xs.map Value.bool).toArray.toList.countP CH=xs.countP (· == true):=by
   show(xs.map Value.bool).countP CH=_
   rw[List.countP_map];rfl
  exact⟨.int _,H,I.tok _,⟨_,by rw[ec]⟩,q⟩
theorem Il:DJ X "list.index" (fun x vs H Q=>∃(l:Addr) (xs:List Bool) (j:Nat),x = .ref l/\vs=[.bl true]/\H l=some (.lst (xs.map V.bl))/\xs[j]? = some true/\(∀m,m<j->xs[m]? ≠ some true)/\Q (.int (j:Nat)) H):=by
 intro pins s σ H x vs v us Q I rx rv h
 obtain⟨l,xs,j,rfl,rfl,hH,hj,hno,q⟩:=h
 cases rx
 obtain⟨u,rfl,ru⟩:=vals1 rv
 cases ru
 obtain⟨z,aA,n,r,hl,e⟩:=I.o7 hH
 obtain rfl:=oO r
 have jl:j<xs.length:=(Jp.mp hj).1
 have zl:(xs.map Value.bool).toArray.size=xs.length:=by rw[Jr,Je]
 have hn:=lq
 rw[Je] at z
 have at':∀m (hm:m<(xs.map Value.bool).toArray.size),CH (xs.map Value.bool).toArray[m]=(xs[m]'(by omega)==true):=fun m hm=>by
  simp only[List.getElem_toArray,Wd];rfl
 refine call_meets F.slot_list_index ⟨_,e,rfl⟩ F.entry_list_index (F.args_list_index_2 _ _) (SeqAt.list_indexAt l _ n none #[] (.bool true) CH j (by omega) (by omega) ?_ ?_) ⟨e,fun w hw =>?_,?_⟩
 ·rw[at' j (by omega),(Jp.mp hj).2];rfl
 ·intro m hm hmj
  rw[at' m hm]
  have:=hno m hmj
  rw[Jc (by omega)] at this
  cases ev:xs[m]'(by omega) with
  | false=>rfl
  | true=>rw[ev] at this;exact absurd rfl this
 ·have hw:w∈xs.map Value.bool:=by simpa using hw
  obtain⟨b,_,rfl⟩:=Ur.mp hw
  exact SeqAt.EqAt.bool_bool b true
 ·exact⟨.int _,H,I.tok _,⟨_,rfl⟩,q⟩
end
abbrev fz (h:Heap)(T:Addr)(a b c:Value):Prop:=h.get? T=some { cls := .type "tuple",data := .seq #[a,b,c] }
section
variable {prog:Program}{w:World}{A:Around}{E:Value->Shared->Prop}{s:Shared}
theorem om {T:Addr}{a b c x:Value}{k:Nat}{Q:Unit->Shared->Prop}(hT:fz s.heap T a b c)
  (h:∀h',h'.get? T=some { cls := .type "tuple",data := .seq ((#[a,b,c]:Array Value).setIfInBounds k x) } -> U0 T s.heap h'->Q () { s with heap:=h' }) :
  wpAny (model prog w) A (updateSeq T (·.setIfInBounds k x)) Q E s:=by
 refine wpAny_updateSeq hT rfl (h _ ?_ (U0.update ..))
 rw[Jz _ hT rfl]
 simp[Obj.mapSeq]
structure Bu (n l1 l2 l3:Addr)(i:Nat)(h:Heap):Prop where
 zp:IsZip h (n+5) (n+3) (n+4) .none
 ti:fz h (n+3) (.ref n) (.ref (n+1)) (.ref (n+2))
 to:∃a b c,fz h (n+4) a b c
 it1:cU false h n l1 i
 it2:cU false h (n+1) l2 i
 it3:cU false h (n+2) l3 i
abbrev xw (n:Addr)(b:Addr):Prop:=b=n+5∨b=n+4∨b=n∨b=n+1∨b=n+2
variable {n l1 l2 l3:Addr}{i:Nat}{xs ys us:Array Value}
theorem na {a b:Nat}(n:Addr)(h:a≠b):(n+a:Addr)≠(n+b:Addr):=fun z=>h (Nat.add_left_cancel z)
theorem nl {l n:Addr}(h:l<n)(a:Nat):l≠(n+a:Addr):=Jk (Jn h (Ug n a))
theorem ze {x y u:Value}{Q:Option Value->Shared->Prop}(d1:l1<n)(d2:l2<n)(d3:l3<n)(st:Bu n l1 l2 l3 i s.heap)(mf:bS false s.heap l1 xs)(uX:bS false s.heap l2 ys)(vi:bS false s.heap l3 us)(hx:xs[i]? = some x)(hy:ys[i]? = some y)(hu:us[i]? = some u)
  (q:∀h',IsZip h' (n+5) (n+3) (n+4) (rawInt s.heap.objs.size)->fz h' (n+4) x y u->cU false h' n l1 (i+1)->cU false h' (n+1) l2 (i+1)->cU false h' (n+2) l3 (i+1)->fz h' s.heap.objs.size x y u->Keeps s.heap h' (xw n)->Q (some (.ref s.heap.objs.size)) { s with heap:=h' }) :
  wpAny (model prog w) A (pyNext (.ref (n+5))) Q E s:=by
 obtain⟨hz,kj,⟨a,b,c,rf⟩,h1,h2,h3⟩:=st
 have hT:s.TypeIs (.ref (n+5)) "zip":=⟨_,hz,rfl⟩
 have n0:∀a:Nat,0≠a->(n:Addr)≠n+a:=fun a h=>na (a:=0) n h
 unfold pyNext
 refine wpAny_bind (wpAny_attempt (wpAny_callSpecial?_slot (name:=Str.ofString "__next__") hT F.slot_zip_next (wpAny_call_entry F.slot_zip_next hT F.entry_zip_next ?_ (F.args_zip_next_1 _))))
 change wpAny _ _ (Bind.bind (field (.ref (n+5)) 2) _) _ _ _
 refine wpAny_bind (wpAny_field hz rfl (x := .bool false) rfl ?_)
 change wpAny _ _ (Bind.bind (field (.ref (n+5)) 3) _) _ _ _
 refine wpAny_bind (wpAny_field hz rfl (x := .ref (n+3)) rfl (wpAny_bind (wpAny_seqItems kj rfl ?_)))
 change wpAny _ _ (Bind.bind (Builtin.SmallTypes.ownedTupleIsFree (.ref (n+5))) _) _ _ _
 refine wpAny_bind ?_
 unfold Builtin.SmallTypes.ownedTupleIsFree
 refine wpAny_bind (wpAny_field hz rfl (x := .none) rfl (wpAny_pure ?_))
 simp only[if_true]
 refine wpAny_bind (wpAny_rule (wpAny_bind (wpAny_field hz rfl (x := .ref (n+4)) rfl (wpAny_bind (wpAny_setField_rec hz (by simp) fun g1 z1 e1=>wpAny_bind ?_)))))
 simp only[List.zipIdx_cons,List.zipIdx_nil,Yh,Yx]
 have m1:∀{c o},c≠n+5->s.heap.get? c=some o->g1.get? c=some o:=fun h e=>e1.extBut _ _ h e
 refine wpAny_bind (wpAny_bind (wpAny_onRaise ?_))
 change wpAny _ _ (Bind.bind (Builtin.SmallTypes.nextOf (.ref n)) _) _ _ _
 refine wpAny_bind (gU (h1.at fun o e=>m1 (n0 5 (by decide)) e) (mf.at fun o e=>m1 (nl d1 5) e) hx fun g2 it1 e2=>wpAny_pure ?_)
 have to2:fz g2 (n+4) a b c:=e2.extBut _ _ (n0 4 (by decide)).symm (m1 (na n (by decide)) rf)
 refine wpAny_bind (wpAny_seqItems to2 rfl (wpAny_bind (om to2 fun g3 to3 e3=>wpAny_bind (wpAny_letGo (wpAny_pure ?_)))))
 have to3:fz g3 (n+4) x b c:=to3
 have k3:Keeps s.heap g3 (fun c=>c=n+5∨c=n∨c=n+4):=fun c o nc e=>e3.extBut _ _ (fun q=>nc (.inr (.inr q))) (e2.extBut _ _ (fun q=>nc (.inr (.inl q))) (m1 (fun q=>nc (.inl q)) e))
 refine wpAny_bind (wpAny_bind (wpAny_onRaise ?_))
 change wpAny _ _ (Bind.bind (Builtin.SmallTypes.nextOf (.ref (n+1))) _) _ _ _
 refine wpAny_bind (gU (h2.at fun o e=>k3 _ _ (fun q=>q.elim (na n (by decide)) fun q=>q.elim (n0 1 (by decide)).symm (na n (by decide))) e) (uX.at fun o e=>k3 _ _ (fun q=>q.elim (nl d2 5) fun q=>q.elim (nl d2 0) (nl d2 4)) e) hy fun g4 it2 e4=>wpAny_pure ?_)
 have FX:fz g4 (n+4) x b c:=e4.extBut _ _ (na n (by decide)) to3
 refine wpAny_bind (wpAny_seqItems FX rfl (wpAny_bind (om FX fun g5 y6 e5=>wpAny_bind (wpAny_letGo (wpAny_pure ?_)))))
 have y6:fz g5 (n+4) x y c:=y6
 have k5:Keeps s.heap g5 (fun c=>c=n+5∨c=n∨c=n+4∨c=n+1):=fun c o nc e=>e5.extBut _ _ (fun q=>nc (.inr (.inr (.inl q)))) (e4.extBut _ _ (fun q=>nc (.inr (.inr (.inr q)))) (k3 c o (fun q=>q.elim (fun q=>nc (.inl q)) fun q=>q.elim (fun q=>nc (.inr (.inl q))) fun q=>nc (.inr (.inr (.inl q)))) e))
 refine wpAny_bind (wpAny_bind (wpAny_onRaise ?_))
 change wpAny _ _ (Bind.bind (Builtin.SmallTypes.nextOf (.ref (n+2))) _) _ _ _
 refine wpAny_bind (gU (h3.at fun o e=>k5 _ _ (fun q=>q.elim (na n (by decide)) fun q=>q.elim (n0 2 (by decide)).symm fun q=>q.elim (na n (by decide)) (na n (by decide))) e) (vi.at fun o e=>k5 _ _ (fun q=>q.elim (nl d3 5) fun q=>q.elim (nl d3 0) fun q=>q.elim (nl d3 4) (nl d3 1)) e) hu fun g6 it3 e6=>wpAny_pure ?_)
 have Rq:fz g6 (n+4) x y c:=e6.extBut _ _ (na n (by decide)) y6
 refine wpAny_bind (wpAny_seqItems Rq rfl (wpAny_bind (om Rq fun g7 Na e7=>wpAny_bind (wpAny_letGo (wpAny_pure (wpAny_pure ?_))))))
 have Na:fz g7 (n+4) x y u:=Na
 refine wpAny_bind (wpAny_seqItems Na rfl (wpAny_bind (wpAny_newTuple ?_)))
 have hsz:g7.objs.size=s.heap.objs.size:=by rw[e7.1,e6.1,e5.1,e4.1,e3.1,e2.1,e1.1]
 have z7:IsZip g7 (n+5) (n+3) (n+4) .ellipsis:=e7.extBut _ _ (na n (by decide)) (e6.extBut _ _ (na n (by decide)) (e5.extBut _ _ (na n (by decide)) (e4.extBut _ _ (na n (by decide)) (e3.extBut _ _ (na n (by decide)) (e2.extBut _ _ (n0 5 (by decide)).symm z1)))))
 have k7:Keeps s.heap g7 (xw n):=fun c o nc e=>e7.extBut _ _ (fun q=>nc (.inr (.inl q))) (e6.extBut _ _ (fun q=>nc (.inr (.inr (.inr (.inr q))))) (k5 c o (fun q=>q.elim (fun q=>nc (.inl q)) fun q=>q.elim (fun q=>nc (.inr (.inr (.inl q)))) fun q=>q.elim (fun q=>nc (.inr (.inl q))) fun q=>nc (.inr (.inr (.inr (.inl q))))) e))
 have BM:cU false g7 n l1 (i+1):=it1.at fun o e=>e7.extBut _ _ (n0 4 (by decide)) (e6.extBut _ _ (n0 2 (by decide)) (e5.extBut _ _ (n0 4 (by decide)) (e4.extBut _ _ (n0 1 (by decide)) (e3.extBut _ _ (n0 4 (by decide)) e))))
 have CN:cU false g7 (n+1) l2 (i+1):=it2.at fun o e=>e7.extBut _ _ (na n (by decide)) (e6.extBut _ _ (na n (by decide)) (e5.extBut _ _ (na n (by decide)) e))
 have Q4:cU false g7 (n+2) l3 (i+1):=it3.at fun o e=>e7.extBut _ _ (na n (by decide)) e
 have FF:n+5<g7.objs.size:=Jf z7
 change wpAny _ _ (Bind.bind (Builtin.SmallTypes.ownedTupleHandOut (.ref (n+5)) (.ref g7.objs.size)) _) _ _ _
 refine wpAny_bind ?_
 unfold Builtin.SmallTypes.ownedTupleHandOut
 have z8:IsZip (g7.push { cls := .type "tuple",data := .seq #[x,y,u] }) (n+5) (n+3) (n+4) .ellipsis:=Jb _ z7
 refine wpAny_bind (wpAny_setField_rec z8 (by simp) fun g9 z9 e9 =>?_)
 have z9:IsZip g9 (n+5) (n+3) (n+4) (rawInt g7.objs.size):=z9
 refine wpAny_setField_rec z9 (by simp) fun gA zA eA=>wpAny_pure ⟨_,rfl,wpAny_pure ?_⟩
 have up:∀c o,c≠n+5->g7.get? c=some o->gA.get? c=some o:=fun c o c1 e=>eA.extBut _ _ c1 (e9.extBut _ _ c1 (Jb _ e))
 have tp:fz gA g7.objs.size x y u:=eA.extBut _ _ (Uk FF) (e9.extBut _ _ (Uk FF) (Ji _ rfl))
 have zA:IsZip gA (n+5) (n+3) (n+4) (rawInt g7.objs.size):=zA
 show Q (some (.ref g7.objs.size)) _
 rw[hsz] at zA tp ⊢
 exact q gA zA (up _ _ (na n (by decide)) Na) (BM.at fun o e=>up _ o (n0 5 (by decide)) e) (CN.at fun o e=>up _ o (na n (by decide)) e) (Q4.at fun o e=>up _ o (na n (by decide)) e) tp fun c o nc e=>up c o (fun q=>nc (.inl q)) (k7 c o nc e)
theorem yj {Q:Option Value->Shared->Prop}(hh:A.handled=none)(d1:l1<n)(st:Bu n l1 l2 l3 i s.heap)(mf:bS false s.heap l1 xs)(hx:xs[i]? = none)
  (q:∀h',Keeps s.heap h' (xw n)->Q none { s with heap:=h' }):wpAny (model prog w) A (pyNext (.ref (n+5))) Q E s:=by
 obtain⟨hz,kj,⟨a,b,c,rf⟩,h1,h2,h3⟩:=st
 have hT:s.TypeIs (.ref (n+5)) "zip":=⟨_,hz,rfl⟩
 have n0:∀a:Nat,0≠a->(n:Addr)≠n+a:=fun a h=>na (a:=0) n h
 unfold pyNext
 refine wpAny_bind (wpAny_attempt (wpAny_callSpecial?_slot (name:=Str.ofString "__next__") hT F.slot_zip_next (wpAny_call_entry F.slot_zip_next hT F.entry_zip_next ?_ (F.args_zip_next_1 _))))
 change wpAny _ _ (Bind.bind (field (.ref (n+5)) 2) _) _ _ _
 refine wpAny_bind (wpAny_field hz rfl (x := .bool false) rfl ?_)
 change wpAny _ _ (Bind.bind (field (.ref (n+5)) 3) _) _ _ _
 refine wpAny_bind (wpAny_field hz rfl (x := .ref (n+3)) rfl (wpAny_bind (wpAny_seqItems kj rfl ?_)))
 change wpAny _ _ (Bind.bind (Builtin.SmallTypes.ownedTupleIsFree (.ref (n+5))) _) _ _ _
 refine wpAny_bind ?_
 unfold Builtin.SmallTypes.ownedTupleIsFree
 refine wpAny_bind (wpAny_field hz rfl (x := .none) rfl (wpAny_pure ?_))
 simp only[if_true]
 refine wpAny_bind (wpAny_rule (wpAny_bind (wpAny_field hz rfl (x := .ref (n+4)) rfl (wpAny_bind (wpAny_setField_rec hz (by simp) fun g1 z1 e1=>wpAny_bind ?_)))))
 have z1:IsZip g1 (n+5) (n+3) (n+4) .ellipsis:=z1
 simp only[List.zipIdx_cons,List.zipIdx_nil,Yh,Yx]
 refine wpAny_bind (wpAny_bind (wpAny_onRaise ?_))
 change wpAny _ _ (Bind.bind (Builtin.SmallTypes.nextOf (.ref n)) _) _ _ _
 refine wpAny_bind (nq hh (h1.at fun o e=>e1.extBut _ _ (n0 5 (by decide)) e) (mf.at fun o e=>e1.extBut _ _ (nl d1 5) e) hx fun g2 e e2 oe =>?_)
 obtain⟨o,ho,hc⟩:=oe
 have z2:IsZip g2 (n+5) (n+3) (n+4) .ellipsis:=e2 _ _ (n0 5 (by decide)).symm z1
 have ez:e≠n+5:=fun q=>by subst q;rw[z2] at ho;cases ho;simp at hc
 refine wpAny_setField_rec z2 (by simp) fun g3 _ e3 =>?_
 refine wpAny_bind (wpAny_isInstance (T := "StopIteration") (b:=true) ⟨o,e3.extBut _ _ ez ho,hc⟩ isSubtype_stop (wpAny_pure (q g3 fun c o nc h =>?_)))
 exact e3.extBut _ _ (fun q=>nc (.inl q)) (e2 _ _ (fun q=>nc (.inr (.inr (.inl q)))) (e1.extBut _ _ (fun q=>nc (.inl q)) h))
noncomputable abbrev Fe (h:Heap)(a b c:Addr):Heap:=(((((h.push (j5 false a)).push (j5 false b)).push (j5 false c)).push { cls := .type "tuple",data := .seq #[.ref h.objs.size,.ref (h.objs.size+1),.ref (h.objs.size+2)] }).push { cls := .type "tuple",data := .seq #[.none,.none,.none] }).push
 { cls := .type "zip",data := .fields #[.none,.bool false,.bool false,.ref (h.objs.size+3),.ref (h.objs.size+4)] }
theorem Cd (a b c:Addr)(xs ys us:Array Value):
  Meets (Builtin.«zip.__new__» ⟨[.type "zip",.ref a,.ref b,.ref c],[]⟩) (fun _ R s=>bS false s.heap a xs/\bS false s.heap b ys/\bS false s.heap c us/\R (.ok (.ret (.ref (s.heap.objs.size+5)))) { s with heap:=Fe s.heap a b c }):=
 .of_wp fun prog w A R s h=>by
  obtain⟨hp,g,d,tk,os⟩:=s;obtain⟨mf,uX,vi,h⟩:=h
  have eE:=sub_zip
  have NY:bS false (Shared.heap ⟨hp,g,d,tk,os⟩) a xs:=mf
  have MC:bS false (Shared.heap ⟨hp.push (j5 false a),g,d,tk,os⟩) b ys:=uX.at fun o e=>Jb _ e
  have SO:bS false (Shared.heap ⟨(hp.push (j5 false a)).push (j5 false b),g,d,tk,os⟩) c us:=vi.at fun o e=>Jb _ (Jb _ e)
  have s1:(hp.push (j5 false a)).objs.size=hp.objs.size+1:=J2 ..
  wp_walk using iZ NY,iZ MC,iZ SO
  refine⟨_,rfl,?_⟩
  simp only[J2] at h ⊢
  exact h
theorem nD (a b c:Value):checkTypeCall "zip" ⟨[a,b,c],[]⟩=pure ():=by kernel_rfl
theorem o9 (a b c:Value):checkBuiltinCall "zip.__new__" ⟨[.type "zip",a,b,c],[]⟩=pure ():=by kernel_rfl
theorem jO (a b c d:Value):argsOk "object.__init__" ⟨[a,b,c,d],[]⟩:=by
 unfold argsOk;rw[signature?_of (id := "object.__init__") (n:=['_','_','t','i','n','i','_','_']) (o:=['t','c','e','j','b','o']) (by kernel_rfl) F.owner_object];kernel_rfl
theorem yF {a b c:Addr}{xs ys us:Array Value}{Q:Value->Shared->Prop}(h1:bS false s.heap a xs)(h2:bS false s.heap b ys)(h3:bS false s.heap c us)
  (q:∀h',Bu s.heap.objs.size a b c 0 h'->(∀c o,s.heap.get? c=some o->h'.get? c=some o)->Q (.ref (s.heap.objs.size+5)) { s with heap:=h' }) :
  wpAny (model prog w) A (call (.type "zip") [.ref a,.ref b,.ref c]) Q E s:=by
 refine callType_new F.called_zip (by decide) (nD _ _ _) (o9 _ _ _) (fun obj=>jO obj _ _ _) F.entry_zip_new (Cd a b c xs ys us) ⟨h1,h2,h3,?_⟩
 have up:∀{h:Heap} {c:Addr} {o:Obj} (p:Obj),h.get? c=some o->(h.push p).get? c=some o:=fun p e=>Jb p e
 have last:∀{h:Heap} {n:Nat} {p:Obj},h.objs.size=n->p.isFreed=false->(h.push p).get? n=some p:=fun e hf=>by rw[<-e];exact Ji _ hf
 have z1:(s.heap.push (j5 false a)).objs.size=s.heap.objs.size+1:=J2 ..
 have z2:((s.heap.push (j5 false a)).push (j5 false b)).objs.size=s.heap.objs.size+2:=by rw[J2,z1]
 have z3:(((s.heap.push (j5 false a)).push (j5 false b)).push (j5 false c)).objs.size=s.heap.objs.size+3:=by rw[J2,z2]
 have z4:((((s.heap.push (j5 false a)).push (j5 false b)).push (j5 false c)).push { cls := .type "tuple",data := .seq #[.ref s.heap.objs.size,.ref (s.heap.objs.size+1),.ref (s.heap.objs.size+2)] }).objs.size=s.heap.objs.size+4:=by rw[J2,z3]
 have z5:(((((s.heap.push (j5 false a)).push (j5 false b)).push (j5 false c)).push { cls := .type "tuple",data := .seq #[.ref s.heap.objs.size,.ref (s.heap.objs.size+1),.ref (s.heap.objs.size+2)] }).push { cls := .type "tuple",data := .seq #[.none,.none,.none] }).objs.size=s.heap.objs.size+5:=by rw[J2,z4]
 have st:Bu s.heap.objs.size a b c 0 (Fe s.heap a b c):=
  ⟨last z5 rfl,up _ (up _ (last z3 rfl)),⟨.none,.none,.none,up _ (last z4 rfl)⟩,⟨_,up _ (up _ (up _ (up _ (up _ (last rfl rfl))))),rfl,rfl⟩,⟨_,up _ (up _ (up _ (up _ (last z1 rfl)))),rfl,rfl⟩,⟨_,up _ (up _ (up _ (last z2 rfl))),rfl,rfl⟩⟩
 have kp:∀d o,s.heap.get? d=some o->(Fe s.heap a b c).get? d=some o:=fun d o e=>up _ (up _ (up _ (up _ (up _ (up _ e)))))
 have ob:(Fe s.heap a b c).get? (s.heap.objs.size+5)=some _:=st.zp
 exact⟨⟨_,ob,rfl⟩,q _ st kp⟩
end
noncomputable def EV (K:Ja)(a b c:Addr):It:=
 ⟨fun i H=>wL fun xs ys us x y u=>aM K H a xs/\aM K H b ys/\aM K H c us/\xs[i]? = some x/\ys[i]? = some y/\us[i]? = some u,
   fun i H v H'=>∃T,v = .ref T/\∀xs ys us x y u,aM K H a xs->aM K H b ys->aM K H c us->xs[i]? = some x->ys[i]? = some y->us[i]? = some u->gJ H T (.tup [x,y,u]) H',
   fun i H=>∃xs,aM K H a xs/\xs.length<=i⟩
theorem yP {P:Program}{w:World}{K:Ja}{elts:List Expr}{k:Nat}{tp:Pos}(n l1 l2 l3:Addr)(d1:l1<n)(d2:l2<n)(d3:l3<n):
  Turn P w K (.Tuple elts k tp) (EV K l1 l2 l3) [n+5,n+3,n+4,n,n+1,n+2] (n+5) (Bu n l1 l2 l3) where
 mem:=by simp
 obj:=fun i h st b hb=>by
  obtain⟨h1,h2,⟨_,_,_,h3⟩,⟨o4,h4,_,d4⟩,⟨o5,h5,_,d5⟩,⟨o6,h6,_,d6⟩⟩:=st
  simp only[Jm,J7,or_false] at hb
  rcases hb with rfl|rfl|rfl|rfl|rfl|rfl
  ·exact⟨_,h1,fun _ z=>nomatch z⟩
  ·exact⟨_,h2,fun _ z=>nomatch z⟩
  ·exact⟨_,h3,fun _ z=>nomatch z⟩
  ·exact⟨_,h4,fun v q=>by rw[d4] at q;cases q⟩
  ·exact⟨_,h5,fun v q=>by rw[d5] at q;cases q⟩
  ·exact⟨_,h6,fun v q=>by rw[d6] at q;cases q⟩
 keep:=fun i h h' st hk=>by
  obtain⟨h1,h2,⟨a,b,c,h3⟩,h4,h5,h6⟩:=st
  exact⟨hk _ (by simp) _ h1,hk _ (by simp) _ h2,⟨a,b,c,hk _ (by simp) _ h3⟩,h4.at fun o e=>hk _ (by simp) o e,h5.at fun o e=>hk _ (by simp) o e,h6.at fun o e=>hk _ (by simp) o e⟩
 item:=fun X hP hw hK hc i pins s σ H E I hf st go=>by
  subst hP hw hK
  obtain⟨xs,ys,us,x,y,u,q1,q2,q3,e1,e2,e3⟩:=go
  obtain⟨its1,r1,p1,_⟩:=I.lT (k:=false) q1
  obtain⟨its2,r2,p2,_⟩:=I.lT (k:=false) q2
  obtain⟨its3,r3,p3,_⟩:=I.lT (k:=false) q3
  obtain⟨u1,g1,ru1⟩:=gV r1 e1
  obtain⟨u2,g2,ru2⟩:=gV r2 e2
  obtain⟨u3,g3,ru3⟩:=gV r3 e3
  have hz:=st.zp
  have kj:=st.ti
  refine ze d1 d2 d3 st p1 p2 p3 g1 g2 g3 fun h' a1 a2 a3 a4 a5 a6 a7=>⟨_,rfl,?_⟩
  refine wpAny_letOwnedTupleGo_zip a1 fun h'' b1 b2 =>?_
  have Mq:s.heap.objs.size≠n+5:=iH (Jf hz) (Jd _)
  have Rc:∀c∈[n+5,n+4,n,n+1,n+2],eu X pins H c:=fun c hc=>hf c (by simp only[Jm,J7,or_false] at hc ⊢;rcases hc with q|q|q|q|q<;>simp[q])
  have kp:∀c o,c∉[n+5,n+4,n,n+1,n+2]->s.heap.get? c=some o->h''.get? c=some o:=fun c o hc e=>by
   simp only[Jm,J7,or_false] at hc
   exact b2.extBut c o (fun q=>hc (.inl q)) (a7 c o hc e)
  have I1:Inv X pins σ H { s with heap:=h'',toks:=s.toks }:=I.iter Rc kp
  have fT:eu X pins H s.heap.objs.size:=I.eC (Jd _) (I.bB.fresh (Jd _))
  have oT:h''.get? s.heap.objs.size=some { cls := .type "tuple",data := .seq #[u1,u2,u3] }:=b2.extBut _ _ Mq a6
  have I2:=I1.adopt (T:=s.heap.objs.size) (o := .tup [x,y,u]) fT I.sz ⟨by show 3<=sizeLine;decide,[u1,u2,u3],.cons ru1 (.cons ru2 (.cons ru3 .nil)),⟨_,oT,rfl,rfl,_,rfl⟩⟩
  have n0:∀a:Nat,0≠a->(n:Addr)≠n+a:=fun a h=>na (a:=0) n h
  have T8:¬xw n (n+3):=fun q=>q.elim (na n (by decide)) fun q=>q.elim (na n (by decide)) fun q=>q.elim (n0 3 (by decide)).symm fun q=>q.elim (na n (by decide)) (na n (by decide))
  refine⟨.ref s.heap.objs.size,_,I2,rfl,⟨_,rfl,fun xs' ys' fI x' y' u' q1' q2' q3' e1' e2' e3' =>?_⟩,⟨b1,b2.extBut _ _ (na n (by decide)) (a7 _ _ T8 kj),⟨_,_,_,b2.extBut _ _ (na n (by decide)) a2⟩,a3.at fun o e=>b2.extBut _ _ (n0 5 (by decide)) e,a4.at fun o e=>b2.extBut _ _ (na n (by decide)) e,a5.at fun o e=>b2.extBut _ _ (na n (by decide)) e⟩,fun c hc =>?_⟩
  ·rw[I.gK q1' q1] at e1'
   rw[I.gK q2' q2] at e2'
   rw[I.gK q3' q3] at e3'
   rw[e1] at e1';rw[e2] at e2';rw[e3] at e3';cases e1';cases e2';cases e3'
   exact⟨fT.1,rfl⟩
  ·have xW:c<s.heap.objs.size:=by
    have VU:=Jf hz
    simp only[Jm,J7,or_false] at hc
    have:c<=n+5:=by
     rcases hc with rfl|rfl|rfl|rfl|rfl|rfl
     ·exact Jd _
     ·exact Nat.add_le_add_left (by decide) n
     ·exact Nat.add_le_add_left (by decide) n
     ·exact Ug _ _
     ·exact Nat.add_le_add_left (by decide) n
     ·exact Nat.add_le_add_left (by decide) n
    exact J3 this VU
   rw[ao (cu xW (Jd _))]
   exact(hf c hc).1
 done:=fun X hP hw hK hc i pins s σ H E I hf st stop=>by
  subst hP hw hK
  obtain⟨xs,q1,e⟩:=stop
  obtain⟨its1,r1,p1,_⟩:=I.lT (k:=false) q1
  have Sm:=r1.length
  refine yj (I.ok.hd hc) d1 st p1 (by simp;omega) fun h' kp=>⟨rfl,?_⟩
  refine I.iter (ch:=[n+5,n+4,n,n+1,n+2]) (t':=s.toks) (fun c hc=>hf c (by simp only[Jm,J7,or_false] at hc ⊢;rcases hc with q|q|q|q|q<;>simp[q])) fun c o hc e =>?_
  simp only[Jm,J7,or_false] at hc
  exact kp c o hc e
 self:=fun A i s Q E st hQ=>wpAny_pyIter_zip st.zp hQ
section
variable {X:Cx}
def Kd (K:Ja)(ta:TA):TI:=fun σ H R=>ta σ H fun vs H1=>wL fun a b c xs ys us=>vs=[.ref a,.ref b,.ref c]/\aM K H1 a xs/\aM K H1 b ys/\aM K H1 c us/\R (EV K a b c) H1
theorem Dv (K:Ja){elts:List Expr}{k:Nat}{tp:Pos}{a b c:Expr}{ta:TA}{p pos:Pos}(hg:Gl X "zip")(hm:X.mg "zip" = none)(ha:PA X [a,b,c] ta)(hb:bootBuiltins "zip" = some (.type "zip"):=by first|rfl|decide)
  (hs:starEach [a,b,c] X.env=[(false,eval a X.env),(false,eval b X.env),(false,eval c X.env)]:=by rfl) (uF:starEach [b,c] X.env=[(false,eval b X.env),(false,eval c X.env)]:=by rfl) (hK:X.K=K:=by rfl) :
  PI X (.Tuple elts k tp) (.Call (.Name "zip" p) [a,b,c] [] pos) (Kd K ta):=by
 subst hK
 intro pins s σ H R I h
 refine Call_ (dU I hg hm hb (PyProof.Rows.callWith_type1 (bG (ha s σ H _ I h) fun us s1 ⟨vs,H1,I1,r1,q1⟩=>?_) (by rw[hs,uF]) (by rw[uF];rfl)))
 obtain⟨l1,l2,l3,xs,ys,zs,e,q1,q2,q3,q⟩:=q1
 subst e
 obtain⟨u1,u2,u3,rfl,r1,r2,r3⟩:∃u1 u2 u3,us=[u1,u2,u3]/\RelV (.ref l1) u1/\RelV (.ref l2) u2/\RelV (.ref l3) u3:=by
  cases r1 with
  | cons p r=>cases r with
   | cons p2 r=>cases r with
    | cons p3 r=>cases r;exact⟨_,_,_,rfl,p,p2,p3⟩
 cases r1;cases r2;cases r3
 obtain⟨its1,rv1,p1,_⟩:=I1.lT (k:=false) q1
 obtain⟨its2,rv2,p2,_⟩:=I1.lT (k:=false) q2
 obtain⟨its3,rv3,p3,_⟩:=I1.lT (k:=false) q3
 refine yF p1 p2 p3 fun h' st hk=>wpAny_pyIter_zip st.zp ?_
 have I2:Inv X pins σ H1 { s1 with heap:=h' }:=I1.kept (t':=s1.toks) hk
 refine⟨_,_,_,_,H1,rfl,I2,yP _ _ _ _ p1.lt p2.lt p3.lt,st,fun c hc =>?_,q⟩
 have xW:s1.heap.objs.size<=c:=by
  simp only[Jm,J7,or_false] at hc
  rcases hc with rfl|rfl|rfl|rfl|rfl|rfl
  ·exact Ug _ _
  ·exact Ug _ _
  ·exact Ug _ _
  ·exact Jd _
  ·exact Ug _ _
  ·exact Ug _ _
 exact I1.eC xW (I1.bB.fresh xW)
end
theorem Bd:typeLookup (.type "zip") "keys" = pure none:=by rw[typeLookup_type,builtinLookup_eq_fast];kernel_rfl
theorem HV:typeLookup (.type "zip") "__getattr__" = pure none:=by rw[typeLookup_type,builtinLookup_eq_fast];kernel_rfl
theorem Hm:entryFor table "zip.__getattribute__" = some Builtin.«object.__getattribute__»:=entryFor_alias (id' := "object.__getattribute__") (by kernel_rfl) (by decide +kernel) (by decide +kernel) (by kernel_rfl)
section
variable {prog:Program}{w:World}{A:Around}{E:Value->Shared->Prop}{h:Heap}{g:Array GenState}{d:Drawn}{t:Nat}{os:OsState}{a:Addr}{o:Obj}{fs:Array Value}
theorem tM {tk:Tok}{Q:Fin->Shared->Prop}(hx:h.get? a=some o)(hc:o.cls = .type "zip")(oE:o.dict=none)(hd:o.data = .fields fs)(hh:A.handled=none)
  (hq:∀e h' t',(∀b o,h.get? b=some o->h'.get? b=some o)->(∃oe,h'.get? e=some oe/\oe.cls = .type "AttributeError")->E (.ref e) ⟨h',g,d,t',os⟩) :
  wpAny (model prog w) A (Builtin.«object.__getattribute__» ⟨[.ref a,.str "keys" tk],[]⟩) Q E ⟨h,g,d,t,os⟩:=by
 have hT:(⟨h,g,d,t,os⟩:Shared).TypeIs (.ref a) "zip":=⟨_,hx,hc⟩
 have f4:=Bd
 repeat (any_goals (first|assumption|wp_step))
 rw[hd]
 dsimp only
 unfold instanceDict
 repeat (any_goals (first|assumption|wp_step))
 rw[oE,hc]
 repeat (any_goals (first|assumption|wp_step))
 have f9:=lA
 unfold raiseAttrError noteAttr
 wp_walk
 rw[show(Manifest.find? "AttributeError").elim false (fun t=>t.mro.contains "StopIteration" || t.mro.contains "SystemExit")=false by decide +kernel,if_neg Jt]
 repeat (any_goals (first|assumption|wp_step))
 refine wpAny_raiseNew_none hh (hq _ _ _ (fun b o' x =>?_) ⟨_,Jz _ (Ji _ rfl) rfl,rfl⟩)
 have x1:=Jb (h:=h) { cls:=Value.type "tuple",data:=Data.seq #[Value.str (Str.ofString (toString "'" ++ toString ((Manifest.find? "zip").elim "zip" fun x=>x.tpName)++toString "' object has no attribute '")++Str.ofString "keys" ++ Str.ofString "'") t] } x
 rw[Ua _ _ (Uk (Jf x1))]
 exact Jb _ x1
theorem vR {Q:Option Value->Shared->Prop}(hx:h.get? a=some o)(hc:o.cls = .type "zip")(oE:o.dict=none)(hd:o.data = .fields fs)(hh:A.handled=none)
  (hq:∀h' t',(∀b o,h.get? b=some o->h'.get? b=some o)->Q none ⟨h',g,d,t',os⟩):wpAny (model prog w) A (getAttr? (.ref a) "keys") Q E ⟨h,g,d,t,os⟩:=by
 have hT:(⟨h,g,d,t+1,os⟩:Shared).TypeIs (.ref a) "zip":=⟨_,hx,hc⟩
 have f2:=F.slot_zip_getattribute.lookup
 have f3:=F.slot_zip_getattribute.bind (.ref a)
 have f4:=HV
 unfold getAttr? getAttrBy?
 repeat (any_goals (first|assumption|wp_step))
 refine codeAny_call_builtin F.slot_zip_getattribute.plain Hm (F.slot_zip_getattribute.check _ _ _ _ _ _ _ _ hT (F.args_zip_getattribute_2 _ _) (tM hx hc oE hd hh fun e h' t' k hoe =>?_))
 have L6:Shared.TypeIs ⟨h',g,d,t',os⟩ (.ref e) "AttributeError":=hoe
 have f5:=lA
 dsimp only
 unfold getattributeRaised
 refine wpAny_bind (wpAny_isInstance (T := "AttributeError") (b:=true) L6 f5 ?_)
 rw[if_pos rfl]
 unfold hookBehind
 repeat (any_goals (first|assumption|wp_step))
 exact hq h' t' k
end
section
variable {prog:Program}{w:World}{K:Type}[DecidableEq K]{knd:KeyKind prog w K}{A:Around}{E:Value->Shared->Prop}
variable {it d:Addr}{T:String}{fp:Addr->Prop}{n:Nat}{P:Nat->Value->Heap->Prop}{R:Value->Value->Prop}{St:Nat->Heap->Prop}
theorem sO {s:Shared}{Z:Result->Shared->Prop}{kvs:List (K×Value)}{g:Heap}(Fd:tS prog w A.in1 it d T fp n P R St)(hn:n=kvs.length)(hz:kvs.length<=100000)
  (hp:∀(j:Nat) v kv h,P j v h->kvs[j]? = some kv->jU knd h v kv)
  (fin:∀h tk,Keeps g h (fun b=>fp b∨b=d)->h.DictOf knd d (merged [] kvs)->Z (.ok (.ret .none)) { s with heap:=h,toks:=tk }) :
  ∀(k i:Nat) (h:Heap) (tk:Nat) (acc:List (K×Value)),i+k=kvs.length->acc.length<=i->merged acc (kvs.drop i)=merged [] kvs->Keeps g h (fun b=>fp b∨b=d)->St i h->h.DictOf knd d acc ->
   codeAny (model prog w) A (.builtin "dict.update.loop" ⟨[.ref d,.ref it,rawInt i,.none],[]⟩) Z { s with heap:=h,toks:=tk }
 | 0,i,h,tk,acc,hk,ha,hm,kp,hi,hd=>by
  have e:i=n:=by omega
  subst e
  refine codeAny_builtin cB ?_
  rw[Around.under_plainId bf _]
  unfold Builtin.«dict.update.loop»
  have dl:d<h.objs.size:=by obtain⟨o,es,ep,ho,r⟩:=hd;exact Jf ho
  refine wpAny_bind (Fd.stop { s with heap:=h,toks:=tk } _ _ hi dl fun h' tk' k' =>?_)
  refine wpAny_bind (m:=Builtin.Dict.addKeywords d []) (wpAny_pure (wpAny_pure ?_))
  refine fin h' tk' (fun b o nb x=>k' b o (fun z=>nb (.inl z)) (kp b o nb x)) ?_
  rw[hn,List.drop_length] at hm
  have hm:acc=merged [] kvs:=hm
  rw[<-hm]
  obtain⟨o,es,ep,ho,r⟩:=hd
  exact⟨o,es,ep,k' _ _ Fd.sfp ho,r⟩
 | k+1,i,h,tk,acc,hk,ha,hm,kp,hi,hd=>by
  have ji:i<kvs.length:=by omega
  have dl:d<h.objs.size:=by obtain⟨o,es,ep,ho,r⟩:=hd;exact Jf ho
  refine codeAny_builtin cB ?_
  rw[Around.under_plainId bf _]
  unfold Builtin.«dict.update.loop»
  refine wpAny_bind (Fd.item i { s with heap:=h,toks:=tk } _ _ (by omega) hi dl fun v h1 tk1 k1 fY p1 r1 =>?_)
  obtain⟨tp,o,m,ku,ev,Fy,hc,vK,hkey⟩:=hp i _ _ _ p1 (Jc ji)
  subst ev
  have Df:h1.DictOf knd d acc:=by
   obtain⟨o,es,ep,ho,r⟩:=hd
   exact⟨o,es,ep,k1 _ _ Fd.sfp ho,r⟩
  have hT:Shared.TypeIs { s with heap:=h1,toks:=tk1 } (.ref tp) "tuple":=⟨o,Fy,hc⟩
  refine wpAny_bind (wpAny_holding ?_)
  refine wpAny_bind (wpAny_tryCatch ?_)
  unfold Builtin.Dict.pairItems
  refine wpAny_bind (wpAny_typeOf hT ?_)
  rw[if_pos (by decide)]
  refine wpAny_bind (wpAny_seqItems (s:={ s with heap:=h1,toks:=tk1 }) Fy vK (wpAny_pure ?_))
  refine wpAny_holding (wpAny_dictSet_pairs (s:={ s with heap:=h1,toks:=tk1 }) hkey Df (fun h2 hd2 sb2 =>?_) (Jg (show acc.length<=100000 by omega) (by decide)))
  refine wpAny_pure ⟨plainId_quiet bf _,?_⟩
  have Sb:Keeps h1 h2 (· = d):=fun b o nb x=>sb2.extBut b o nb x
  refine sO Fd hn hz hp fin k (i+1) h2 _ (stored acc kvs[i].1 kvs[i].2) (by omega) ?_ ?_ (fun b o nb x=>Sb b o (fun z=>nb (.inr z)) (k1 b o (fun z=>nb (.inl z)) (kp b o nb x))) (Fd.keepS _ _ _ fY Sb) hd2
  ·refine Jg ?_ (Y9 ha)
   unfold stored
   split
   ·rw[Je];exact U1 _
   ·rw[Jq];exact Jd _
  ·rw[<-hm,List.drop_eq_getElem_cons ji]
   rfl
theorem A0 {s:Shared}{Q:Value->Shared->Prop}{kvs:List (K×Value)}{oz:Obj}{fs:Array Value}(hh:A.handled=none)(hT:T = "zip")(ho:s.heap.get? it=some oz)(hc:oz.cls = .type "zip")(oE:oz.dict=none)(hd:oz.data = .fields fs)
  (Fd:tS prog w A.in1.in1 it s.heap.objs.size T fp n P R St) (hn:n=kvs.length) (hz:kvs.length<=100000) (hp:∀(j:Nat) v kv h,P j v h->kvs[j]? = some kv->jU knd h v kv) (kM:∀h',(∀b o,s.heap.get? b=some o->h'.get? b=some o)->St 0 h')
  (fin:∀h tk,Keeps s.heap h fp->h.DictOf knd s.heap.objs.size (merged [] kvs)->Q (.ref s.heap.objs.size) { s with heap:=h,toks:=tk }) :
  wpAny (model prog w) A (call (.type "dict") [.ref it]) Q E s:=by
 refine callType_codes (Q₁:=fun obj s₁=>obj = .ref s.heap.objs.size/\s₁={ s with heap:=s.heap.push { cls := .type "dict",data := .dict #[] } }) F.kt_called_dict (F.kt_typeCall_dict_1 _) F.entry_dict_init (kt_code_dict_new _ ⟨rfl,rfl⟩) ?_
 rintro obj s1 ⟨rfl,rfl⟩
 have new:(s.heap.push { cls := .type "dict",data := .dict #[] }).DictOf knd s.heap.objs.size []:=Heap.DictOf.new s.heap
 have k0:∀b o,s.heap.get? b=some o->(s.heap.push { cls := .type "dict",data := .dict #[] }).get? b=some o:=fun b o x=>Jb _ x
 refine⟨new.typeIs,F.args_dict_init_2 _ _,?_⟩
 unfold Builtin.«dict.__init__» Builtin.Dict.selfAndRest
 refine wpAny_bind (wpAny_bind (wpAny_notOrdered_dict new.typeIs ?_))
 show wpAny _ _ (pure (s.heap.objs.size,[Value.ref it])) _ _ _
 refine wpAny_pure ?_
 show wpAny _ _ (Builtin.Dict.updateFrom "dict.__init__" s.heap.objs.size (.ref it) [] .none) _ _ _
 unfold Builtin.Dict.updateFrom
 have S7:Shared.TypeIs { s with heap:=s.heap.push { cls := .type "dict",data := .dict #[] } } (.ref it) "zip":=⟨oz,k0 _ _ ho,hc⟩
 refine wpAny_bind (wpAny_typeOf S7 ?_)
 rw[if_pos (by decide)]
 refine wpAny_bind (vR (h:=s.heap.push { cls := .type "dict",data := .dict #[] }) (k0 _ _ ho) hc oE hd hh fun h1 t1 k1 =>?_)
 rw[if_pos (by rfl)]
 have kk:∀b o,s.heap.get? b=some o->h1.get? b=some o:=fun b o x=>k1 b o (k0 b o x)
 have fY:=kM h1 kk
 have Ox:h1.DictOf knd s.heap.objs.size []:=by
  obtain⟨o,es,ep,e,r⟩:=new
  exact⟨o,es,ep,k1 _ _ e,r⟩
 refine wpAny_bind (wpAny_rule (wpAny_bind (Fd.self ⟨h1,s.gens,s.drawn,t1,s.os⟩ _ _ fY ?_)))
 refine wpAny_pure ⟨plainId_quiet bf _,?_⟩
 refine sO (s:=s) (A:=A.in1) (g:=s.heap) Fd hn hz hp (fun h tk k dd=>⟨rfl,fin h tk (fun b o nb x=>k b o (fun z=>z.elim nb fun z=>cu (Jf x) (Jd _) z) x) dd⟩) kvs.length 0 _ _ [] (by omega) (Jd _) rfl (fun b o nb x=>kk b o x) fY Ox
end
section
variable {X:Cx}
theorem HP:∀{ks:List Key} {aA:List Value},Vals (ks.map kV) aA->∀(i:Nat) k u,ks[i]? = some k->aA[i]? = some u->RelV (kV k) u
 | ks,aA,r,i,k,u,h1,h2=>by
  obtain⟨u',h3,r3⟩:=r.get (i:=i) (x:=kV k) (by rw[Jl,h1];rfl)
  rw[h2] at h3;cases h3;exact r3
def Sg (K:Ja)(ta:TA):TE:=fun σ H Q=>ta σ H fun vs H1=>rX fun(l1 l2:Addr) (ks:List Key) (ys:List V)=>vs=[.ref l1,.ref l2]/\aM K H1 l1 (ks.map kV)/\aM K H1 l2 ys/\ks.length=ys.length/\ks.length<=100000 /\
 ∀d H',gJ H1 d (.dK (cK [] (ks.zip ys))) H'->Q (.ref d) H'
theorem ve {a b:Expr}{ta:TA}{p p2 pos kf:Pos}(hc:X.calm=true)(Hb:Gl X "dict")(IB:X.mg "dict" = none)(KS:Gl X "zip")(Kv:X.mg "zip" = none)(ha:PA X [a,b] ta)
  (HA:bootBuiltins "dict" = some (.type "dict"):=by first|rfl|decide) (JR:bootBuiltins "zip" = some (.type "zip"):=by first|rfl|decide)
  (BP:starEach [.Call (.Name "zip" p2) [a,b] [] kf] X.env=[(false,eval (.Call (.Name "zip" p2) [a,b] [] kf) X.env)]:=by rfl)
  (hs:starEach [a,b] X.env=[(false,eval a X.env),(false,eval b X.env)]:=by rfl) (uF:starEach [b] X.env=[(false,eval b X.env)]:=by rfl) :
  PE X (.Call (.Name "dict" p) [.Call (.Name "zip" p2) [a,b] [] kf] [] pos) (Sg X.K ta):=by
 intro pins s σ H Q I h
 refine wpAny_Call_Name_kw (dU I Hb IB HA ?_)
 refine PyProof.Rows.callWith_type1 ?_ BP rfl
 rw[BP]
 show wpAny _ _ (spliced ((false,eval (.Call (.Name "zip" p2) [a,b] [] kf) X.env)::[])) _ _ _
 refine Calls.spliced_cons ?_
 refine Call_ (dU I KS Kv JR (PyProof.Rows.callWith_type1 (bG (ha s σ H _ I h) fun us s1 hz_=>aj.el hz_ _ fun vs H1 I1 r1 q1 =>?_) (by rw[hs,uF]) (by rw[uF];rfl)))
 obtain⟨l1,l2,ks,ys,e,q1,q2,el,ez,q⟩:=q1
 subst e
 obtain⟨u,w',rfl,r1,r2⟩:=vals2 r1
 cases r1;cases r2
 obtain⟨its1,rv1,p1,hz1⟩:=I1.list q1
 refine aj.el (I1.list q2) _ ?_
 rintro its2 rv2 p2 hz2
 have e1:=rv1.length
 have e2:=rv2.length
 rw[Je] at e1
 have a1:l1<s1.heap.objs.size:=by obtain⟨_,e,_⟩:=p1.isList;exact Jf e
 have a2:l2<s1.heap.objs.size:=by obtain⟨_,e,_⟩:=p2.isList;exact Jf e
 refine call_zip_2 p1.isList p2.isList fun h' hz kj rf hi1 hi2 hsz hk =>?_
 refine Calls.spliced_nil ?_
 have pM:s1.heap.objs.size<=h'.objs.size:=by rw[hsz];exact Ug _ _
 have iK:∀n,n<5->s1.heap.objs.size+n<h'.objs.size:=fun n hn=>by rw[hsz];exact Nat.add_lt_add_left hn _
 have SR:KV (ks.zip ys) (ks.zip its2):=by
  clear q q1 p1 p2 a1 a2 hi1 hi2 hk hz kj rf
  have:∀{ks:List Key} {ys:List V} {aA:List Value},Vals ys aA->ks.length=ys.length->KV (ks.zip ys) (ks.zip aA):=by
   intro ks
   induction ks with
   | nil=>intro ys aA r e;exact .nil
   | cons k ks ih=>
    intro ys aA r e
    cases ys with
    | nil=>cases e
    | cons y ys=>
     obtain⟨v,r',rfl,rv1,rv2⟩:=r.hd
     exact .cons ⟨rfl,rv1⟩ (ih rv2 (by simpa using e))
  exact this rv2 el
 have zl:(ks.zip its2).length=ks.length:=by rw[Yi];omega
 refine A0 (s:={ s1 with heap:=h' }) (knd:=bA X.prog X.w) (kvs:=ks.zip its2) (P:=rL h'.objs.size its1.toArray its2.toArray) (I1.ok.hd hc) rfl hz rfl rfl rfl
  (sL (I.ok.hd hc) (zipApart_new a1 a2) (iK 4 (by decide)) (iK 2 (by decide)) (iK 3 (by decide)) (iK 0 (by decide)) (iK 1 (by decide)) (Jn a1 pM) (Jn a2 pM)) (by simp;omega) (by omega) (fun j v kv h hP hkv =>?_) (fun h2 k2=>⟨k2 _ _ kj,⟨_,_,k2 _ _ rf⟩,hi1.at fun o e=>k2 _ _ e,hi2.at fun o e=>k2 _ _ e,(p1.isList.at fun o e=>hk _ o e).at fun o e=>k2 _ o e,(p2.isList.at fun o e=>hk _ o e).at fun o e=>k2 _ o e,.inl (k2 _ _ hz)⟩) fun h2 tk k2 dd =>?_
 ·obtain⟨a,x,y,rfl,_,gx,gy,pr⟩:=hP
  have z:=(Yn (z:=kv)).mp hkv
  have gy:its2[j]? = some y:=by simpa using gy
  have gx:its1[j]? = some x:=by simpa using gx
  have ey:y=kv.2:=Option.some.inj (gy.symm.trans z.2)
  subst ey
  exact⟨a,_,_,x,rfl,pr,rfl,rfl,qi (HP rv1 j kv.1 x z.1 gx)⟩
 ·have kk:∀b o,s1.heap.get? b=some o->h2.get? b=some o:=fun b o e=>by
   have hb:=Jf e
   have gt:∀n,b≠s1.heap.objs.size+n:=fun n=>Jk (Jn hb (Ug _ _))
   exact k2 b o (fun z=>z.elim (gt 4) fun z=>z.elim (gt 3) fun z=>z.elim (gt 0) (gt 1)) (hk b o e)
  have ml:=dq (ks.zip ys) []
  have big:=I1.big
  have RQ:(ks.zip ys).length=ks.length:=by rw[Yi];omega
  refine⟨.ref h'.objs.size,_,I1.laid (a:=h'.objs.size) (o := .dK (cK [] (ks.zip ys))) (t':=tk) kk pM ⟨Jg (show _<=100000 by simp at ml;omega) (by decide),?_,_,KV.merge SR .nil,dd⟩,rfl,q _ _ ⟨I1.bB.fresh pM,rfl⟩⟩
  exact beq_eq_false_iff_ne.mpr (Uk (Jn big pM))
end
abbrev ma (h:Heap)(it:Addr)(x:Str)(t:Tok)(i:Nat):Prop:=h.IsStrIter it "str_ascii_iterator" x t i
section
variable {prog:Program}{w:World}{A:Around}{E:Value->Shared->Prop}{s:Shared}{z TI TO i1 i2 l a:Addr}{f:Bool}{oa:Obj}{x:Str}{t:Tok}{i c:Nat}{ys:Array Value}
theorem yY {y:Value}{Q:Option Value->Shared->Prop}(D:ZipApart z TI TO i1 i2 l l)(hz:IsZip s.heap z TI TO .none)(kj:IsPair s.heap TI (.ref i1) (.ref i2))(rf:∃a b,IsPair s.heap TO a b)
  (h1:ma s.heap i1 x t i) (h2:s.heap.IsListIter i2 l i) (hl:s.heap.IsList l ys) (hx:x.cps[i]? = some c) (hy:ys[i]? = some y)
  (q:∀h' tk tk',IsZip h' z TI TO (rawInt s.heap.objs.size)->(∃a b,IsPair h' TO a b)->ma h' i1 x t (i+1)->h'.IsListIter i2 l (i+1)->IsPair h' s.heap.objs.size (.str ⟨#[c]⟩ tk) y->Keeps s.heap h' (lZ z TO i1 i2)->Q (some (.ref s.heap.objs.size)) { s with heap:=h',toks:=tk' }) :
  wpAny (model prog w) A (pyNext (.ref z)) Q E s:=by
 obtain⟨a,b,rf⟩:=rf
 have hT:s.TypeIs (.ref z) "zip":=⟨_,hz,rfl⟩
 unfold pyNext
 refine wpAny_bind (wpAny_attempt (wpAny_callSpecial?_slot (name:=Str.ofString "__next__") hT F.slot_zip_next (wpAny_call_entry F.slot_zip_next hT F.entry_zip_next ?_ (F.args_zip_next_1 _))))
 change wpAny _ _ (Bind.bind (field (.ref z) 2) _) _ _ _
 refine wpAny_bind (wpAny_field hz rfl (x := .bool false) rfl ?_)
 change wpAny _ _ (Bind.bind (field (.ref z) 3) _) _ _ _
 refine wpAny_bind (wpAny_field hz rfl (x := .ref TI) rfl (wpAny_bind (wpAny_seqItems kj rfl ?_)))
 change wpAny _ _ (Bind.bind (Builtin.SmallTypes.ownedTupleIsFree (.ref z)) _) _ _ _
 refine wpAny_bind ?_
 unfold Builtin.SmallTypes.ownedTupleIsFree
 refine wpAny_bind (wpAny_field hz rfl (x := .none) rfl (wpAny_pure ?_))
 simp -iota only [if_true]
 refine wpAny_bind (wpAny_rule (wpAny_bind (wpAny_field hz rfl (x := .ref TO) rfl (wpAny_bind (wpAny_setField_rec hz (by simp) fun g1 z1 e1=>wpAny_bind ?_)))))
 simp -iota only [List.zipIdx_cons,List.zipIdx_nil,Yh,Yx]
 refine wpAny_bind (wpAny_bind (wpAny_onRaise ?_))
 change wpAny _ _ (Bind.bind (Builtin.SmallTypes.nextOf (.ref i1)) _) _ _ _
 refine wpAny_bind (wpAny_nextOf_ascii_item (s:={ s with heap:=g1 }) (cS h1 fun o e=>e1.extBut _ _ D.i1z e) hx fun g2 it1 e2=>wpAny_pure ?_)
 have to2:IsPair g2 TO a b:=e2.extBut _ _ D.TOi1 (e1.extBut _ _ D.TOz rf)
 refine wpAny_bind (wpAny_seqItems to2 rfl (wpAny_bind (wpAny_updateSeq_pair to2 fun g3 to3 e3=>wpAny_bind (wpAny_letGo (wpAny_pure ?_)))))
 have to3:IsPair g3 TO (.str ⟨#[c]⟩ s.toks) b:=to3
 have zg:Keeps s.heap g3 (fun c=>c=z∨c=i1∨c=TO):=fun c o nc e=>e3.extBut _ _ (fun q=>nc (.inr (.inr q))) (e2.extBut _ _ (fun q=>nc (.inr (.inl q))) (e1.extBut _ _ (fun q=>nc (.inl q)) e))
 refine wpAny_bind (wpAny_bind (wpAny_onRaise ?_))
 change wpAny _ _ (Bind.bind (Builtin.SmallTypes.nextOf (.ref i2)) _) _ _ _
 refine wpAny_bind (wpAny_nextOf_list_item (h2.at fun o e=>zg _ _ (fun q=>q.elim D.i2z fun q=>q.elim D.i12.symm D.TOi2.symm) e) (hl.at fun o e=>zg _ _ (fun q=>q.elim D.l2z fun q=>q.elim D.l2i1 D.l2TO) e) hy fun g4 it2 e4=>wpAny_pure ?_)
 have FX:IsPair g4 TO (.str ⟨#[c]⟩ s.toks) b:=e4.extBut _ _ D.TOi2 to3
 refine wpAny_bind (wpAny_seqItems FX rfl (wpAny_bind (wpAny_updateSeq_pair FX fun g5 y6 e5=>wpAny_bind (wpAny_letGo (wpAny_pure (wpAny_pure ?_))))))
 have y6:IsPair g5 TO (.str ⟨#[c]⟩ s.toks) y:=y6
 refine wpAny_bind (wpAny_seqItems y6 rfl (wpAny_bind (wpAny_newTuple ?_)))
 have hsz:g5.objs.size=s.heap.objs.size:=by rw[e5.1,e4.1,e3.1,e2.1,e1.1]
 have z5:IsZip g5 z TI TO .ellipsis:=e5.extBut _ _ D.TOz.symm (e4.extBut _ _ D.i2z.symm (e3.extBut _ _ D.TOz.symm (e2.extBut _ _ D.i1z.symm z1)))
 have k5:Keeps s.heap g5 (lZ z TO i1 i2):=fun c o nc e=>e5.extBut _ _ (fun q=>nc (.inr (.inl q))) (e4.extBut _ _ (fun q=>nc (.inr (.inr (.inr q)))) (zg c o (fun q=>q.elim (fun q=>nc (.inl q)) fun q=>q.elim (fun q=>nc (.inr (.inr (.inl q)))) fun q=>nc (.inr (.inl q))) e))
 have BM:ma g5 i1 x t (i+1):=cS it1 fun o e=>e5.extBut _ _ D.TOi1.symm (e4.extBut _ _ D.i12 (e3.extBut _ _ D.TOi1.symm e))
 have CN:g5.IsListIter i2 l (i+1):=it2.at fun o e=>e5.extBut _ _ D.TOi2.symm e
 have FF:z<g5.objs.size:=Jf z5
 change wpAny _ _ (Bind.bind (Builtin.SmallTypes.ownedTupleHandOut (.ref z) (.ref g5.objs.size)) _) _ _ _
 refine wpAny_bind ?_
 unfold Builtin.SmallTypes.ownedTupleHandOut
 have z6:IsZip (g5.push { cls := .type "tuple",data := .seq #[.str ⟨#[c]⟩ s.toks,y] }) z TI TO .ellipsis:=Jb _ z5
 refine wpAny_bind (wpAny_setField_rec z6 (by simp) fun g7 z7 e7 =>?_)
 have z7:IsZip g7 z TI TO (rawInt g5.objs.size):=z7
 refine wpAny_setField_rec z7 (by simp) fun g8 z8 e8=>wpAny_pure ⟨_,rfl,wpAny_pure ?_⟩
 have up:∀c o,c≠z->g5.get? c=some o->g8.get? c=some o:=fun c o c1 e=>e8.extBut _ _ c1 (e7.extBut _ _ c1 (Jb _ e))
 have tp:IsPair g8 g5.objs.size (.str ⟨#[c]⟩ s.toks) y:=e8.extBut _ _ (Uk FF) (e7.extBut _ _ (Uk FF) (Ji _ rfl))
 have z8:IsZip g8 z TI TO (rawInt g5.objs.size):=z8
 show Q (some (.ref g5.objs.size)) _
 rw[hsz] at z8 tp ⊢
 exact q g8 s.toks (s.toks+1) z8 ⟨_,_,up _ _ D.TOz y6⟩ (cS BM fun o e=>up _ o D.i1z e) (CN.at fun o e=>up _ o D.i2z e) tp fun c o nc e=>up c o (fun q=>nc (.inl q)) (k5 c o nc e)
theorem CA {y:Value}{Q:Option Value->Shared->Prop}(D:ZipApart z TI TO i1 i2 l l)(hz:gB s.heap z TI TO a f)(ha:s.heap.get? a=some oa)(kj:IsPair s.heap TI (.ref i1) (.ref i2))
  (h1:ma s.heap i1 x t i) (h2:s.heap.IsListIter i2 l i) (hl:s.heap.IsList l ys) (hx:x.cps[i]? = some c) (hy:ys[i]? = some y)
  (q:∀h' tk tk',gB h' z TI TO a true->ma h' i1 x t (i+1)->h'.IsListIter i2 l (i+1)->IsPair h' s.heap.objs.size (.str ⟨#[c]⟩ tk) y->Keeps s.heap h' (fun b=>b=z∨b=i1∨b=i2)->Q (some (.ref s.heap.objs.size)) { s with heap:=h',toks:=tk' }) :
  wpAny (model prog w) A (pyNext (.ref z)) Q E s:=by
 have hT:s.TypeIs (.ref z) "zip":=⟨_,hz,rfl⟩
 unfold pyNext
 refine wpAny_bind (wpAny_attempt (wpAny_callSpecial?_slot (name:=Str.ofString "__next__") hT F.slot_zip_next (wpAny_call_entry F.slot_zip_next hT F.entry_zip_next ?_ (F.args_zip_next_1 _))))
 change wpAny _ _ (Bind.bind (field (.ref z) 2) _) _ _ _
 refine wpAny_bind (wpAny_field hz rfl (x := .bool false) rfl ?_)
 change wpAny _ _ (Bind.bind (field (.ref z) 3) _) _ _ _
 refine wpAny_bind (wpAny_field hz rfl (x := .ref TI) rfl (wpAny_bind (wpAny_seqItems kj rfl ?_)))
 change wpAny _ _ (Bind.bind (Builtin.SmallTypes.ownedTupleIsFree (.ref z)) _) _ _ _
 refine wpAny_bind (kT hz ha fun h0 z0 k0 =>?_)
 simp -iota only [U2,if_false,<-Array.forIn_toList,Yh,Yx]
 refine wpAny_bind (wpAny_bind (wpAny_bind (wpAny_holding (wpAny_bind (wpAny_nextOf_ascii_item (s:={ s with heap:=h0 }) (cS h1 fun o e=>k0.extBut _ _ D.i1z e) hx fun h4 e4 k4=>wpAny_pure (wpAny_pure ?_))))))
 refine wpAny_bind (wpAny_bind (wpAny_holding (wpAny_bind (wpAny_nextOf_list_item ((h2.extBut k0.extBut D.i2z).extBut k4.extBut D.i12.symm) ((hl.extBut k0.extBut D.l2z).extBut k4.extBut D.l2i1) hy fun h5 e5 k5=>wpAny_pure (wpAny_pure (wpAny_pure ?_))))))
 refine wpAny_bind (wpAny_newTuple (hsz:=by show 2<=sizeLine;decide) (wpAny_pure ⟨_,rfl,wpAny_pure ?_⟩))
 have hsz:h5.objs.size=s.heap.objs.size:=by rw[k5.1,k4.1,k0.1]
 show Q (some (.ref h5.objs.size)) _
 rw[hsz]
 refine q (h5.push { cls := .type "tuple",data := .seq #[.str ⟨#[c]⟩ s.toks,y] }) s.toks (s.toks+1) (Jb _ (k5.extBut _ _ D.i2z.symm (k4.extBut _ _ D.i1z.symm z0))) (cS e4 fun o e=>Jb _ (k5.extBut _ _ D.i12 e)) (e5.at fun o e=>Jb _ e) (by rw[<-hsz];exact Ji _ rfl) fun b o nb e =>?_
 exact Jb _ (k5.extBut _ _ (fun z=>nb (.inr (.inr z))) (k4.extBut _ _ (fun z=>nb (.inr (.inl z))) (k0.extBut _ _ (fun z=>nb (.inl z)) e)))
theorem BG {Q:Option Value->Shared->Prop}(hh:A.handled=none)(D:ZipApart z TI TO i1 i2 l l)(hz:gB s.heap z TI TO a f)(ha:s.heap.get? a=some oa)(kj:IsPair s.heap TI (.ref i1) (.ref i2))
  (h1:ma s.heap i1 x t i) (hx:x.cps[i]? = none)
  (q:∀h',Keeps s.heap h' (fun b=>b=z∨b=i1∨b=i2)->Q none { s with heap:=h' }) :
  wpAny (model prog w) A (pyNext (.ref z)) Q E s:=by
 have hT:s.TypeIs (.ref z) "zip":=⟨_,hz,rfl⟩
 unfold pyNext
 refine wpAny_bind (wpAny_attempt (wpAny_callSpecial?_slot (name:=Str.ofString "__next__") hT F.slot_zip_next (wpAny_call_entry F.slot_zip_next hT F.entry_zip_next ?_ (F.args_zip_next_1 _))))
 change wpAny _ _ (Bind.bind (field (.ref z) 2) _) _ _ _
 refine wpAny_bind (wpAny_field hz rfl (x := .bool false) rfl ?_)
 change wpAny _ _ (Bind.bind (field (.ref z) 3) _) _ _ _
 refine wpAny_bind (wpAny_field hz rfl (x := .ref TI) rfl (wpAny_bind (wpAny_seqItems kj rfl ?_)))
 change wpAny _ _ (Bind.bind (Builtin.SmallTypes.ownedTupleIsFree (.ref z)) _) _ _ _
 refine wpAny_bind (kT hz ha fun h0 z0 k0 =>?_)
 simp -iota only [U2,if_false,<-Array.forIn_toList,Yh,Yx]
 refine wpAny_bind (wpAny_bind (wpAny_bind (wpAny_holding ?_)))
 refine wpAny_bind (wpAny_nextOf_ascii_end (s:={ s with heap:=h0 }) hh (cS h1 fun o e=>k0.extBut _ _ D.i1z e) hx fun h4 e k4 oe =>?_)
 refine aj.el (oe) _ ?_
 rintro o ho hc
 exact wpAny_bind (wpAny_isInstance (T := "StopIteration") (b:=true) ⟨o,ho,hc⟩ isSubtype_stop (wpAny_pure (q h4 fun b o nb x=>k4 _ _ (fun z=>nb (.inr (.inl z))) (k0.extBut _ _ (fun z=>nb (.inl z)) x))))
end
noncomputable abbrev Sr (h:Heap)(x:Str)(t:Tok)(b:Addr):Heap:=((((h.push { cls := .type "str_ascii_iterator",data := .fields #[.str x t,.int 0 0] }).push { cls := .type "list_iterator",data := .fields #[.ref b,.int 0 0] }).push { cls := .type "tuple",data := .seq #[.ref h.objs.size,.ref (h.objs.size+1)] }).push { cls := .type "tuple",data := .seq #[.none,.none] }).push
 { cls := .type "zip",data := .fields #[.none,.bool false,.bool false,.ref (h.objs.size+2),.ref (h.objs.size+3)] }
theorem EE (x:Str)(t:Tok)(b:Addr)(ys:Array Value):
  Meets (Builtin.«zip.__new__» ⟨[.type "zip",.str x t,.ref b],[]⟩) (fun _ R s=>x.cps.all (· < 128)=true/\s.heap.IsList b ys/\R (.ok (.ret (.ref (s.heap.objs.size+4)))) { s with heap:=Sr s.heap x t b }):=
 .of_wp fun prog w A R s h=>by
  obtain⟨hp,g,d,tk,os⟩:=s;obtain⟨hx,uX,h⟩:=h
  have eE:=sub_zip
  have MC:Heap.IsList (Shared.heap ⟨hp.push { cls := .type "str_ascii_iterator",data := .fields #[.str x t,.int 0 0] },g,d,tk,os⟩) b ys:=uX.at fun o e=>Jb _ e
  have s1:(hp.push { cls := .type "str_ascii_iterator",data := .fields #[.str x t,.int 0 0] }).objs.size=hp.objs.size+1:=J2 ..
  wp_walk using wpAny_pyIter_ascii hx,wpAny_pyIter_list MC
  refine⟨_,rfl,?_⟩
  simp -iota only [J2] at h ⊢
  exact h
section
variable {prog:Program}{w:World}{A:Around}{E:Value->Shared->Prop}{s:Shared}
theorem B0 {x:Str}{t:Tok}{b:Addr}{ys:Array Value}{Q:Value->Shared->Prop}(h1:x.cps.all (· < 128)=true)(h2:s.heap.IsList b ys)
  (q:∀h',IsZip h' (s.heap.objs.size+4) (s.heap.objs.size+2) (s.heap.objs.size+3) .none->IsPair h' (s.heap.objs.size+2) (.ref s.heap.objs.size) (.ref (s.heap.objs.size+1))->IsPair h' (s.heap.objs.size+3) .none .none->ma h' s.heap.objs.size x t 0->h'.IsListIter (s.heap.objs.size+1) b 0->h'.objs.size=s.heap.objs.size+5->(∀c o,s.heap.get? c=some o->h'.get? c=some o)->Q (.ref (s.heap.objs.size+4)) { s with heap:=h' }) :
  wpAny (model prog w) A (call (.type "zip") [.str x t,.ref b]) Q E s:=by
 refine callType_new F.called_zip (by decide) (F.typeCall_zip_2 _ _) (F.newCall_zip_2 _ _) (fun obj=>F.args_object_init_3 obj _ _) F.entry_zip_new (EE x t b ys) ⟨h1,h2,?_⟩
 have up:∀{h:Heap} {c:Addr} {o:Obj} (p:Obj),h.get? c=some o->(h.push p).get? c=some o:=fun p e=>Jb p e
 have last:∀{h:Heap} {n:Nat} {p:Obj},h.objs.size=n->p.isFreed=false->(h.push p).get? n=some p:=fun e hf=>by rw[<-e];exact Ji _ hf
 have z1:=J2 s.heap { cls := .type "str_ascii_iterator",data := .fields #[.str x t,.int 0 0] }
 have z2:=J2 (s.heap.push { cls := .type "str_ascii_iterator",data := .fields #[.str x t,.int 0 0] }) { cls := .type "list_iterator",data := .fields #[.ref b,.int 0 0] }
 rw[z1] at z2
 have z3:=J2 ((s.heap.push { cls := .type "str_ascii_iterator",data := .fields #[.str x t,.int 0 0] }).push { cls := .type "list_iterator",data := .fields #[.ref b,.int 0 0] }) { cls := .type "tuple",data := .seq #[.ref s.heap.objs.size,.ref (s.heap.objs.size+1)] }
 rw[z2] at z3
 have z4:=J2 (((s.heap.push { cls := .type "str_ascii_iterator",data := .fields #[.str x t,.int 0 0] }).push { cls := .type "list_iterator",data := .fields #[.ref b,.int 0 0] }).push { cls := .type "tuple",data := .seq #[.ref s.heap.objs.size,.ref (s.heap.objs.size+1)] }) { cls := .type "tuple",data := .seq #[.none,.none] }
 rw[z3] at z4
 have zz:(Sr s.heap x t b).get? (s.heap.objs.size+4)=some _:=last z4 rfl
 refine⟨⟨_,zz,rfl⟩,q _ zz (up _ (up _ (last z2 rfl))) (up _ (last z3 rfl)) ⟨_,up _ (up _ (up _ (up _ (last rfl rfl)))),rfl,rfl⟩ ⟨_,up _ (up _ (up _ (last z1 rfl))),rfl,rfl⟩ ?_ fun c o e=>up _ (up _ (up _ (up _ (up _ e))))⟩
 show(Heap.push _ _).objs.size=_
 rw[J2,z4]
end
structure yb (z TI TO i1 i2 l S:Addr)(x:Str)(t:Tok)(ys:Array Value)(i:Nat)(h:Heap):Prop where
 ti:IsPair h TI (.ref i1) (.ref i2)
 to:∃a b,IsPair h TO a b
 it1:ma h i1 x t i
 it2:h.IsListIter i2 l i
 a2:h.IsList l ys
 zp:IsZip h z TI TO .none/\i=0∨0<i/\∃a f oa,gB h z TI TO a f/\h.get? a=some oa/\S<a
abbrev BO (S:Addr)(x:Str)(ys:Array Value)(j:Nat)(v:Value)(h:Heap):Prop:=rX fun a c tk y=>v = .ref a/\S<a/\x.cps[j]? = some c/\ys[j]? = some y/\IsPair h a (.str ⟨#[c]⟩ tk) y
theorem Cn {prog:Program}{w:World}{A:Around}{z TI TO i1 i2 l S:Addr}{x:Str}{t:Tok}{ys:Array Value}(hh:A.handled=none)(hn:0<x.cps.size)(hy:x.cps.size<=ys.size)(D:ZipApart z TI TO i1 i2 l l)(b1:z<S)(b2:TI<S)(b3:TO<S)(b4:i1<S)(b5:i2<S)(b6:l<S):
  tS prog w A z S "zip" (lZ z TO i1 i2) x.cps.size (BO S x ys) iY (yb z TI TO i1 i2 l S x t ys) where
 sfp:=fun q=>by
  rcases q with q|q|q|q<;>(rw[q] at b1 b3 b4 b5;first|exact absurd b1 (Uj _)|exact absurd b3 (Uj _)|exact absurd b4 (Uj _)|exact absurd b5 (Uj _))
 ne:=Jk b1
 ty:=fun i h st=>by
  rcases st.zp with ⟨q,_⟩|⟨_,a,f,oa,q,_⟩
  ·exact⟨_,q,rfl⟩
  ·exact⟨_,q,rfl⟩
 self:=fun s Q E st q=>by
  rcases st.zp with ⟨r,_⟩|⟨r,_⟩
  ·exact wpAny_pyIter_zip r q
  ·exact absurd r (Uj _)
 item:=fun i s Q E hi st hS q=>by
  obtain⟨ti,to,it1,it2,a2,zp⟩:=st
  have hx:x.cps[i]? = some (x.cps[i]'hi):=Ui hi
  have hy:ys[i]? = some (ys[i]'(by omega)):=Ui (by omega)
  have old:∀j u,BO S x ys j u s.heap->iY u (.ref s.heap.objs.size):=fun j u hz_=>aj.el hz_ _ fun a c tk y e _ _ _ p=>⟨a,_,e,rfl,Jf p⟩
  rcases zp with ⟨r,_⟩|⟨hi0,c,f,oc,r,oc',hc⟩
  ·refine yY D r ti to it1 it2 a2 hx hy fun h' tk tk' r1 r2 r3 r4 r5 r7 =>?_
   have n2:∀{b:Addr},b≠z->b≠TO->b≠i1->b≠i2->¬lZ z TO i1 i2 b:=fun c1 c2 c3 c4 q=>q.elim c1 fun q=>q.elim c2 fun q=>q.elim c3 c4
   refine q _ h' tk' r7 ⟨r7 _ _ (n2 D.TIz D.TITO D.TIi1 D.TIi2) ti,r2,r3,r4,a2.at fun o e=>r7 _ _ (n2 D.l2z D.l2TO D.l2i1 D.l2i2) e,.inr ⟨Nat.succ_pos _,_,_,_,r1,r5,hS⟩⟩ ⟨_,_,_,_,rfl,hS,hx,hy,r5⟩ old
  ·have ne:∀{b:Addr},b<S->c≠b:=fun hb=>Uk (Nat.lt_trans hb hc)
   refine CA D r oc' ti it1 it2 a2 hx hy fun h' tk tk' r1 r2 r3 r4 r5 =>?_
   have kp:Keeps s.heap h' (lZ z TO i1 i2):=fun b o nb e=>r5 b o (fun z=>z.elim (fun z=>nb (.inl z)) fun z=>nb (.inr (.inr z))) e
   obtain⟨ta,tb,to⟩:=to
   refine q _ h' tk' kp ⟨r5 _ _ (fun z=>z.elim D.TIz fun z=>z.elim D.TIi1 D.TIi2) ti,⟨_,_,r5 _ _ (fun z=>z.elim D.TOz fun z=>z.elim D.TOi1 D.TOi2) to⟩,r2,r3,a2.at fun o e=>r5 _ _ (fun z=>z.elim D.l2z fun z=>z.elim D.l2i1 D.l2i2) e,
    .inr ⟨Nat.succ_pos _,_,_,_,r1,r5 _ _ (fun z=>z.elim (ne b1) fun z=>z.elim (ne b4) (ne b5)) oc',hc⟩⟩ ⟨_,_,_,_,rfl,hS,hx,hy,r4⟩ old
 stop:=fun s Q E st hS q=>by
  obtain⟨ti,to,it1,it2,a2,zp⟩:=st
  rcases zp with ⟨_,r⟩|⟨hi0,c,f,oc,r,oc',hc⟩
  ·rw[r] at hn;exact absurd hn (Uj _)
  ·exact BG hh D r oc' ti it1 (Yl (Jd _)) fun h' k=>q h' s.toks fun b o nb e=>k b o (fun z=>z.elim (fun z=>nb (.inl z)) fun z=>nb (.inr (.inr z))) e
 keepS:=fun i h h' st k=>by
  obtain⟨ti,⟨a,b,to⟩,it1,it2,a2,zp⟩:=st
  refine⟨k _ _ (Jk b2) ti,⟨a,b,k _ _ (Jk b3) to⟩,cS it1 fun o e=>k _ o (Jk b4) e,it2.at fun o e=>k _ o (Jk b5) e,a2.at fun o e=>k _ o (Jk b6) e,?_⟩
  rcases zp with ⟨r,r0⟩|⟨hi0,c,f,oc,r,oc',hc⟩
  ·exact .inl ⟨k _ _ (Jk b1) r,r0⟩
  ·exact .inr ⟨hi0,c,f,oc,k _ _ (Jk b1) r,k _ _ (Uk hc) oc',hc⟩
 keepP:=fun j v h h' hz_ k=>aj.el hz_ _ fun a c tk y e ha h1 h2 p=>by
  have ne:∀{b:Addr},b<S->a≠b:=fun hb=>Uk (Nat.lt_trans hb ha)
  exact⟨a,c,tk,y,e,ha,h1,h2,k _ _ (fun z=>z.elim (fun z=>z.elim (ne b1) fun z=>z.elim (ne b3) fun z=>z.elim (ne b4) (ne b5)) (Uk ha)) p⟩
 nolen:=by rw[typeLookup_type,builtinLookup_eq_fast];kernel_rfl
 nohint:=by rw[typeLookup_type,builtinLookup_eq_fast];kernel_rfl
 nl:=by decide
 nt:=by decide
section
variable {X:Cx}
def Sl (K:Ja)(ta:TA):TE:=fun σ H Q=>ta σ H fun vs H1=>mI fun(x:Str) (l2:Addr) (ys:List V)=>vs=[.str x,.ref l2]/\aM K H1 l2 ys/\x.cps.all (· < 128)=true/\0<x.cps.size/\x.cps.size<=ys.length /\
 ∀H' p (as:List Addr),ak H1 H'->H1 p=none->H' p=some (.lst (as.map V.ref))->as.length=x.cps.size ->
  (∀(j:Nat) a c y,as[j]? = some a->x.cps[j]? = some c->ys[j]? = some y->H1 a=none/\H' a=some (.tup [.str ⟨#[c]⟩,y]))->Q (.ref p) H'
theorem uc {a b:Expr}{ta:TA}{p p2 pos kf:Pos}(hc:X.calm=true)(Hb:Gl X "list")(IB:X.mg "list" = none)(KS:Gl X "zip")(Kv:X.mg "zip" = none)(ha:PA X [a,b] ta)
  (HA:bootBuiltins "list" = some (.type "list"):=by first|rfl|decide) (JR:bootBuiltins "zip" = some (.type "zip"):=by first|rfl|decide)
  (BP:starEach [.Call (.Name "zip" p2) [a,b] [] kf] X.env=[(false,eval (.Call (.Name "zip" p2) [a,b] [] kf) X.env)]:=by rfl)
  (hs:starEach [a,b] X.env=[(false,eval a X.env),(false,eval b X.env)]:=by rfl) (uF:starEach [b] X.env=[(false,eval b X.env)]:=by rfl) :
  PE X (.Call (.Name "list" p) [.Call (.Name "zip" p2) [a,b] [] kf] [] pos) (Sl X.K ta):=by
 intro pins s σ H Q I h
 refine wpAny_Call_Name_kw (dU I Hb IB HA ?_)
 refine PyProof.Rows.callWith_type1 ?_ BP rfl
 rw[BP]
 show wpAny _ _ (spliced ((false,eval (.Call (.Name "zip" p2) [a,b] [] kf) X.env)::[])) _ _ _
 refine Calls.spliced_cons ?_
 refine Call_ (dU I KS Kv JR (PyProof.Rows.callWith_type1 (bG (ha s σ H _ I h) fun us s1 hz_=>aj.el hz_ _ fun vs H1 I1 r1 q1 =>?_) (by rw[hs,uF]) (by rw[uF];rfl)))
 obtain⟨x,l2,ys,e,q2,xa,xp,xy,q⟩:=q1
 subst e
 obtain⟨u,w',rfl,ru,r2⟩:=vals2 r1
 cases r2
 obtain⟨t,rfl⟩:∃t,u = .str x t:=ru
 refine aj.el (I1.list q2) _ ?_
 rintro its2 rv2 p2 hz2
 have e2:=rv2.length
 have a2:l2<s1.heap.objs.size:=by obtain⟨_,e,_⟩:=p2.isList;exact Jf e
 refine B0 xa p2.isList fun h' hz kj rf hi1 hi2 hsz hk =>?_
 refine Calls.spliced_nil ?_
 have pM:s1.heap.objs.size<=h'.objs.size:=by rw[hsz];exact Ug _ _
 have iK:∀n,n<5->s1.heap.objs.size+n<h'.objs.size:=fun n hn=>by rw[hsz];exact Nat.add_lt_add_left hn _
 have zs:∀o,yb (s1.heap.objs.size+4) (s1.heap.objs.size+2) (s1.heap.objs.size+3) s1.heap.objs.size (s1.heap.objs.size+1) l2 h'.objs.size x t its2.toArray 0 (h'.push o):=fun o=>
  ⟨Jb _ kj,⟨_,_,Jb _ rf⟩,cS hi1 fun o e=>Jb _ e,hi2.at fun o e=>Jb _ e,(p2.isList.at fun o e=>hk _ o e).push _,.inl ⟨Jb _ hz,rfl⟩⟩
 refine pJ (s:={ s1 with heap:=h' }) (Cn (I.ok.hd hc) xp (by simp;omega) (zipApart_new a2 a2) (iK 4 (by decide)) (iK 2 (by decide)) (iK 3 (by decide)) (iK 0 (by decide)) (iK 1 (by decide)) (Jn a2 pM)) (by omega) zs fun h2 tk acc c hk2 G =>?_
 obtain⟨C2,hsz2,hpw,gf⟩:=G
 obtain⟨as,gD⟩:=mE (l:=acc.toList) fun v hv=>by
  obtain⟨j,hj⟩:=U5.mp hv
  obtain⟨a,_,_,_,e,_⟩:=gf j v (by simpa using hj)
  exact⟨a,e⟩
 have iX:∀(j:Nat) a,as[j]? = some a->mI fun c tk y=>h'.objs.size<a/\x.cps[j]? = some c/\its2.toArray[j]? = some y/\IsPair h2 a (.str ⟨#[c]⟩ tk) y:=fun j a h=>by
  obtain⟨a',c,tk,y,e,g⟩:=gf j (.ref a) (by
   have:acc.toList[j]? = some (.ref a):=by rw[gD,Jl,h];rfl
   simpa using this)
  cases e
  exact⟨c,tk,y,g⟩
 have above:∀a∈as,h'.objs.size<a:=fun a ha=>by
  obtain⟨j,hj⟩:=U5.mp ha
  obtain⟨_,_,_,g,_⟩:=iX j a hj
  exact g
 have old:∀b o,s1.heap.get? b=some o->h2.get? b=some o:=fun b o e=>by
  have hb:=Jf e
  have gt:∀n,b≠s1.heap.objs.size+n:=fun n=>Jk (Jn hb (Ug _ _))
  exact hk2 b o (fun z=>z.elim (gt 4) fun z=>z.elim (gt 3) fun z=>z.elim (gt 0) (gt 1)) (hk b o e)
 have I2:Inv X pins σ H1 { s1 with heap:=h2,toks:=tk }:=I1.kept old
 have sf:∀a∈as,s1.heap.objs.size<=a:=fun a ha=>Uz (J3 pM (above a ha))
 have nd:as.Nodup:=by
  rw[gD,List.pairwise_map] at hpw
  exact hpw.imp fun hz_=>aj.el hz_ _ fun a b e1 e2 h=>by cases e1;cases e2;exact Jk h
 have eC:∀a,s1.heap.objs.size<=a->eu X pins H1 a/\X.s₀.heap.objs.size<=a:=fun a ha=>⟨I1.eC ha (I1.bB.fresh ha),Jg I1.sz ha⟩
 have Ej:as.length=x.cps.size:=by
  have z:acc.toList.length=as.length:=by rw[gD,Je]
  simp at z hsz2
  omega
 let ps:List (List V):=(x.cps.toList.zip ys).map fun q=>[V.str ⟨#[q.1]⟩,q.2]
 have RD:∀(j:Nat) c y,x.cps[j]? = some c->ys[j]? = some y->ps[j]? = some [V.str ⟨#[c]⟩,y]:=fun j c y h1 h2=>by
  show((x.cps.toList.zip ys).map fun q=>[V.str ⟨#[q.1]⟩,q.2])[j]? = _
  rw[Jl,(Yn (z:=(c,y))).mpr ⟨by simpa using h1,h2⟩]
  rfl
 obtain⟨H',I',sm,same,all⟩:=I2.j8 as ps nd (by show _=((x.cps.toList.zip ys).map _).length;rw[Je,Yi];have:=U6 (xs:=x.cps);omega) (fun a ha=>eC a (sf a ha)) (fun j a pp h1 h2'=>by
  refine aj.el (iX j a h1) _ ?_
  rintro c tk y _ g1 g2 g3
  refine aj.el (kR rv2 g2) _ ?_
  rintro vy gy ry
  rw[RD j c vy g1 gy] at h2';cases h2'
  exact⟨by show 2<=sizeLine;decide,[.str ⟨#[c]⟩ tk,y],.cons ⟨_,rfl⟩ (.cons ry .nil),⟨_,g3,rfl,rfl,_,rfl⟩⟩)
 have A4:h'.objs.size∉as:=fun hm=>Uj _ (above _ hm)
 have mD:H1 h'.objs.size=none:=I1.bB.fresh pM
 obtain⟨fS,sS⟩:=eC h'.objs.size pM
 have Lz:eu X pins H' h'.objs.size:=⟨by rw[same _ A4];exact mD,fS.2⟩
 have I3:=I'.adopt (T:=h'.objs.size) (o := .lst (as.map V.ref)) Lz sS ⟨by rw[Je];omega,acc.toList,c,by
  rw[gD]
  clear C2 gD all same I' sm sf nd Ej A4 above iX
  induction as with
  | nil=>exact .nil
  | cons a r ih=>exact .cons rfl ih,by simpa using C2⟩
 refine⟨.ref h'.objs.size,_,I3,rfl,q _ _ as (fun b o e =>?_) mD aq Ej fun j a c y h1 h2' h3'=>⟨(eC a (sf a (Ju h1))).1.1,?_⟩⟩
 ·rw[ao (aF e mD)];exact sm b o e
 ·rw[ao (fun(z:a=h'.objs.size)=>A4 (by rw[<-z];exact Ju h1))]
  exact all j a _ h1 (RD j c y h2' h3')
end
end L2
namespace L2
set_option genSizeOf false
set_option genInjectivity false
set_option genSizeOf false
set_option genInjectivity false
end L2
namespace Z
open PySem L2
structure sH (H:Hp)(b c:Addr)(t:Int)(ns:List Int):Prop where
 d:H b=some (.dK [(.inr "cells",.ref c),(.inr "turn",.int t)])
 l:H c=some (.lst (ns.map V.int))
 ne:0<ns.length
 le:ns.length<=64
noncomputable def dN (H:Hp)(b c:Addr):Hp:=fun a=>if a=b∨a=c then none else H a
theorem bL {H:Hp}{b c a:Addr}(h1:a≠b)(h2:a≠c):dN H b c a=H a:=if_neg (fun z=>z.elim h1 h2)
theorem cA {H:Hp}{b c a:Addr}{o:HO}(h:dN H b c a=some o):H a=some o/\a≠b/\a≠c:=by
 unfold dN at h
 split at h
 ·cases h
 ·rename_i n
  exact⟨h,fun z=>n (.inl z),fun z=>n (.inr z)⟩
theorem eN {H:Hp}{b c:Addr}:ak (dN H b c) H:=fun a o h=>(cA h).1
theorem sH.bc {H:Hp}{b c:Addr}{t:Int}{ns:List Int}(x:sH H b c t ns):b≠c:=Fp x.d x.l (by intro z;cases z)
theorem sH.AJ {H:Hp}{b c:Addr}{t:Int}{ns:List Int}(x:sH H b c t ns):iz H b (.str "turn") (some (.int t)):=iz.k (k:=Sum.inr "turn") x.d
theorem sH.kW {H:Hp}{b c:Addr}{t:Int}{ns:List Int}(x:sH H b c t ns):iz H b (.str "cells") (some (.ref c)):=iz.k (k:=Sum.inr "cells") x.d
theorem sH.AW {H:Hp}{b c:Addr}{t:Int}{ns:List Int}(x:sH H b c t ns)(t':Int):kK H b (.str "turn") (.int t') (upd H b (.dK [(.inr "cells",.ref c),(.inr "turn",.int t')])):=
 kK.k (k:=Sum.inr "turn") x.d (by show 2<sizeLine;decide)
theorem sH.turned {H:Hp}{b c:Addr}{t:Int}{ns:List Int}(x:sH H b c t ns)(t':Int):sH (upd H b (.dK [(.inr "cells",.ref c),(.inr "turn",.int t')])) b c t' ns:=
 ⟨aq,by rw[ao (Ne.symm x.bc)];exact x.l,x.ne,x.le⟩
theorem zZ {H:Hp}{b c:Addr}{o:HO}:dN (upd H b o) b c=dN H b c:=by
 funext a;unfold dN;split
 ·rfl
 ·rename_i n;exact ao (fun z=>n (.inl z))
theorem yU {H:Hp}{b c:Addr}{o:HO}:dN (upd H c o) b c=dN H b c:=by
 funext a;unfold dN;split
 ·rfl
 ·rename_i n;exact ao (fun z=>n (.inr z))
def vX:Sp:=fun vs H Q _=>uR fun(b c:Addr) (t:Int) (ns:List Int) (many:Int)=>vs=[.ref b,.int many]/\sH H b c t ns/\0<=t/\t<100000000/\0<many/\many<1073741824 /\
 ∀(r:Int) (H':Hp) (Es:List Int),0<=r->r<many->sH H' b c (t+1) Es->ak (dN H b c) (dN H' b c)->Q (.int r) H'
theorem at_of {ns:List Int}{p:Int}(h0:0<=p)(h1:p<ns.length):∃v,Av (ns.map V.int) p=some (.int v)/\ns[p.toNat]? = some v:=by
 have hk:p.toNat<ns.length:=by omega
 have ek:p=((p.toNat:Nat):Int):=by omega
 have q:Av (ns.map V.int) ((p.toNat:Nat):Int)=some (.int ns[p.toNat]):=qJ (by rw[Jl,Jc hk]<;>rfl)
 rw[<-ek] at q
 exact⟨_,q,Jc hk⟩
theorem Gn {a j m:Int}(h0:0<m)(h:m<2^64):wD (a%m) j:=by
 have h1:=Int.emod_nonneg a (b:=m) (by omega)
 have h2:=Int.emod_lt_of_pos a h0
 exact .inl ⟨by omega,by omega⟩
theorem nM {n:Nat}{p:Int}(h0:0<=p)(h1:p<n):yM n p=some p.toNat:=by unfold yM;rw[if_pos h0,if_pos h1]
theorem nW {H H':Hp}{b c:Addr}(h:∀a o,a≠b->a≠c->H a=some o->H' a=some o):ak (dN H b c) (dN H' b c):=fun a o e=>by
 refine aj.el (cA e) _ ?_
 rintro e h1 h2
 rw[bL h1 h2]
 exact h a o h1 h2 e
end Z
namespace L2
open PySem
def Gm (t:TG):Prop:=∀x σ H (Q Q':St->Hp->Prop),(∀a b,Q a b->Q' a b)->t x σ H Q->t x σ H Q'
def Pu (t:y8):Prop:=∀x σ H (Q Q':St->Hp->Prop),(∀a b,Q a b->Q' a b)->t x σ H Q->t x σ H Q'
theorem dC {i:Nat}:Gm (nE i):=fun _ _ _ _ _ h q=>h _ _ q
theorem gm:Pu IA:=fun _ _ _ _ _ h q=>⟨q.1,h _ _ q.2⟩
theorem km {t:TG}{u:y8}(a:Gm t)(b:Pu u):Pu (Cm t u):=fun _ _ _ _ _ h ⟨v,r,e,q⟩=>⟨v,r,e,a _ _ _ _ _ (fun _ _ z=>b _ _ _ _ _ h z) q⟩
theorem au.get {K:Ja}{H:Hp}:∀{ds:List PyData} {vs:List V} {i:Nat} {d:PyData},au K H ds vs->ds[i]? = some d->∃v,vs[i]? = some v/\Den K H d v
 | [],_,_,_,_,e=>by simp at e
 | d::ds,vs,i,d',h,e=>by
  unfold au at h
  obtain⟨v,r,rfl,h1,h2⟩:=h
  cases i with
  | zero=>cases e;exact⟨v,rfl,h1⟩
  | succ i=>exact au.get (i:=i) h2 e
theorem au.len {K:Ja}{H:Hp}:∀{ds:List PyData} {vs:List V},au K H ds vs->vs.length=ds.length
 | [],_,h=>by unfold au at h;subst h;rfl
 | d::ds,vs,h=>by
  unfold au at h
  obtain⟨v,r,rfl,h1,h2⟩:=h
  rw[J0,J0,au.len h2]
theorem Den.pair {K:Ja}{H:Hp}{a b:Str}{v:V}(h:Den K H (.tuple [.str a,.str b]) v):∃p,v = .ref p/\cE K H p [.str a,.str b]:=by
 unfold Den at h
 obtain⟨p,vs,e,h1,h2⟩:=h
 unfold au at h2
 obtain⟨v1,r1,rfl,d1,h2⟩:=h2
 unfold au at h2
 obtain⟨v2,r2,rfl,d2,h2⟩:=h2
 unfold au at h2
 subst h2
 unfold Den at d1 d2
 subst d1 d2
 exact⟨p,e,h1⟩
end L2
namespace Z
open PySem L2
noncomputable def aI (bk:List (Str×Str)):PyData := .list (bk.map fun q =>.tuple [.str q.1,.str q.2])
theorem bV {H:Hp}{p:Addr}(h:H p=none)(o:HO):ak H (upd H p o):=fun b u q=>by rw[ao (aF q h)];exact q
end Z
namespace L2
open PySem
theorem lC {J:It}{g:TG}{tb:TS}{D:Ends}{σ:St}{H:Hp}(N:Nat)(Pv:Nat->St->Hp->Prop)(h0:Pv 0 σ H)
  (go:∀i σ H,i<N->Pv i σ H->J.go i H/\∀x H',J.yld i H x H'->g x σ H' fun σ2 H2=>tb { D with nx:=Pv (i+1),ct:=Pv (i+1),bk:=D.nx } σ2 H2)
  (stop:∀ σ H,Pv N σ H->J.stop N H/\D.nx σ H) :
  ∃W:Nat->Nat->St->Hp->Prop,(∃m,W 0 m σ H)/\∀i m σ H,W i m σ H ->
   (J.stop i H/\D.nx σ H)∨(J.go i H/\∃N:St->Hp->Prop,(∀ σ' H',N σ' H'->∃m',m'<m/\W (i+1) m' σ' H')/\∀x H',J.yld i H x H'->g x σ H' fun σ2 H2=>tb { D with nx:=N,ct:=N,bk:=D.nx } σ2 H2):=by
 refine⟨fun i m σ H=>m=N-i/\i<=N/\Pv i σ H,⟨N,by simp,Uw _,h0⟩,?_⟩
 intro i m σ H
 refine aj.go ?_
 rintro rfl hi p
 by_cases ji:i<N
 ·obtain⟨g1,g2⟩:=go i σ H ji p
  exact .inr ⟨g1,Pv (i+1),fun σ' H' p'=>⟨N-(i+1),by omega,rfl,ji,p'⟩,g2⟩
 ·have e:i=N:=by omega
  subst e
  exact .inl (stop σ H p)
theorem dP {t u:TS}{D:Ends}{σ:St}{H:Hp}(Ex:St->Hp->Prop)(h:∀Nx:St->Hp->Prop,(∀ σ H,Ex σ H->Nx σ H)->t { D with nx:=Nx } σ H)(fin:∀ σ H,Ex σ H->u D σ H):EC t u D σ H:=h (u D) fin
theorem xZ {c:TT}{tb:TS}{D:Ends}{σ:St}{H:Hp}(Pv:Nat->St->Hp->Prop)(h0:∃m,Pv m σ H)
  (hs:∀m σ H,Pv m σ H->c σ H fun b H1=>if b=true then ∃N:St->Hp->Prop,(∀ σ' H',N σ' H'->∃m',m'<m/\Pv m' σ' H')/\tb { D with nx:=N,ct:=N,bk:=D.nx } σ H1 else D.nx σ H1):rG c tb D σ H:=⟨Pv,h0,hs⟩
theorem jX {te:TE}{g:TG}{u:TS}{D:Ends}{σ:St}{H:Hp}(Ex:V->Hp->Prop)(h:∀Qn:VK,(∀v H,Ex v H->Qn v H)->te σ H Qn)(fin:∀v H,Ex v H->g v σ H (u D)):EC (Fh te g) u D σ H:=h _ fin
theorem gn {i:Nat}{v:V}{σ:St}{H:Hp}{Q:St->Hp->Prop}(h:Q (σ.set i (some v)) H):nE i v σ H Q:=h
end L2
namespace Z
open PySem L2
def Bx (H:Hp)(b c:Addr)(t:Int):Prop:=∃ns,sH H b c t ns
structure Step (b c:Addr)(H H':Hp)(t t' N:Int):Prop where
 le:t<=t'
 ub:t'<=t+N
 bx:Bx H' b c t'
 sm:ak (dN H b c) (dN H' b c)
theorem Step.refl {b c:Addr}{H:Hp}{t:Int}(h:Bx H b c t):Step b c H H t t 0:=⟨Int.le_refl _,by omega,h,ak.refl _⟩
theorem Step.trans {b c:Addr}{H H' H2:Hp}{t t' t2 N M:Int}(x:Step b c H H' t t' N)(y:Step b c H' H2 t' t2 M):Step b c H H2 t t2 (N+M):=
 ⟨by have:=x.le;have:=y.le;omega,by have:=x.ub;have:=y.ub;omega,y.bx,x.sm.trans y.sm⟩
theorem Step.more {b c:Addr}{H H':Hp}{t t' N M:Int}(x:Step b c H H' t t' N)(h:N<=M):Step b c H H' t t' M:=⟨x.le,by have:=x.ub;omega,x.bx,x.sm⟩
theorem Bx.aW {H:Hp}{b c p:Addr}{t:Int}(x:Bx H b c t)(h:H p=none):p≠b/\p≠c:=by
 obtain⟨ns,x⟩:=x
 exact⟨fun z=>(by rw[z,x.d] at h;cases h),fun z=>(by rw[z,x.l] at h;cases h)⟩
theorem Bx.upd {H:Hp}{b c p:Addr}{t:Int}{o:HO}(x:Bx H b c t)(h1:p≠b)(h2:p≠c):Bx (upd H p o) b c t:=by
 obtain⟨ns,x⟩:=x
 exact⟨ns,by rw[ao (Ne.symm h1)];exact x.d,by rw[ao (Ne.symm h2)];exact x.l,x.ne,x.le⟩
theorem Step.new {b c p:Addr}{H H':Hp}{t t' N:Int}(x:Step b c H H' t t' N)(h:H' p=none)(o:HO):Step b c H (upd H' p o) t t' N:=
 ⟨x.le,x.ub,x.bx.upd (x.bx.aW h).1 (x.bx.aW h).2,x.sm.trans (nW fun a u _ _ e=>by rw[ao (aF e h)];exact e)⟩
theorem Step.chg {b c p:Addr}{H H':Hp}{t t' N:Int}(x:Step b c H H' t t' N)(h:H p=none)(h1:p≠b)(h2:p≠c)(o:HO):Step b c H (upd H' p o) t t' N:=
 ⟨x.le,x.ub,x.bx.upd h1 h2,fun a u e=>by
  have q:=x.sm a u e
  refine aj.el (cA q) _ ?_
  rintro q n1 n2
  rw[bL n1 n2,ao (fun z =>?_)]
  ·exact q
  ·rw[z] at e
   rw[(cA e).1] at h;cases h⟩
theorem Step.old {b c a:Addr}{H H':Hp}{t t' N:Int}{o:HO}(x:Step b c H H' t t' N)(h:H a=some o)(h1:a≠b)(h2:a≠c):H' a=some o:=
 (cA (x.sm a o (by rw[bL h1 h2];exact h))).1
theorem Step.fresh {b c a:Addr}{H H':Hp}{t t' N:Int}(x:Step b c H H' t t' N)(hb:Bx H b c t)(h:H' a=none):H a=none:=by
 obtain⟨h1,h2⟩:=x.bx.aW h
 cases e:H a with
 | none=>rfl
 | some o=>rw[x.old e h1 h2] at h;cases h
theorem ak.dN {H H':Hp}{b c:Addr}(s:ak H H'):ak (dN H b c) (dN H' b c):=nW fun a o _ _ e=>s a o e
theorem Bx.same {H H':Hp}{b c:Addr}{t:Int}(x:Bx H b c t)(s:ak H H'):Bx H' b c t:=by
 obtain⟨ns,x⟩:=x
 exact⟨ns,s _ _ x.d,s _ _ x.l,x.ne,x.le⟩
theorem Step.same {b c:Addr}{H H':Hp}{t:Int}(x:Bx H b c t)(s:ak H H'):Step b c H H' t t 0:=⟨Int.le_refl _,by omega,x.same s,ak.dN s⟩
def oX:Sp:=fun vs H Q _=>rX fun(b c:Addr) (t many:Int)=>vs=[.ref b,.int many]/\Bx H b c t/\0<=t/\t<100000000/\0<many/\many<1073741824 /\
 ∀(r:Int) (H':Hp),0<=r->r<many->Step b c H H' t (t+1) 1->Q (.int r) H'
theorem DY {vs:List V}{H:Hp}{Q:VK}{E:XK}(h:oX vs H Q E):vX vs H Q E:=by
 obtain⟨b,c,t,many,e,⟨ns,bx⟩,h1,h2,h3,h4,q⟩:=h
 exact⟨b,c,t,ns,many,e,bx,h1,h2,h3,h4,fun r H' Es r0 r1 bx' sm=>q r H' r0 r1 ⟨by omega,by omega,⟨Es,bx'⟩,sm⟩⟩
theorem v9 (vs:List V)(j:Nat):jT vs none (some (j:Int))=vs.take j:=by
 unfold jT
 rw[HT.uf,HT.xV,List.drop_zero,Nat.sub_zero]
 rcases Nat.le_total j vs.length with h|h
 ·rw[Nat.min_eq_left h]
 ·rw[Nat.min_eq_right h,Ym (Jd _),Ym h]
theorem sA (vs:List V)(j:Nat):jT vs (some (j:Int)) none=vs.drop j:=by
 unfold jT
 rw[HT.uf,HT.xV]
 rcases Nat.le_total j vs.length with h|h
 ·rw[Nat.min_eq_left h,Ym (by rw[Yr];exact Jd _)]
 ·rw[Nat.min_eq_right h,List.drop_of_length_le (Jd _),List.drop_of_length_le h];simp
theorem Fn.imp {P:Program}{w:World}{K:Ja}{mg:Str->Option Value}{base:Heap}{k:Nat}{x:Str}{ps:List Str}{sp FI:Sp}(F:Fn P w K mg base k x ps sp)(h:∀vs H Q E,FI vs H Q E->sp vs H Q E):Fn P w K mg base k x ps FI:=by
 refine aj.el (F.ex) _ ?_
 rintro f fd a b c d
 exact⟨f,fd,a.imp h,b,c,d⟩
theorem Step.bD {b c p:Addr}{H H' H2:Hp}{t t' N:Int}{o:HO}(x:Step b c H H' t t' N)(n:gJ H' p o H2):Step b c H H2 t t' N:=by rw[n.eq];exact x.new n.nn _
theorem Step.my {b c p:Addr}{H H' H2:Hp}{t t' N:Int}{o:HO}(x:Step b c H H' t t' N)(n:oZ H' p o H2)(h:H p=none)(h1:p≠b)(h2:p≠c):Step b c H H2 t t' N:=by rw[n.eq];exact x.chg h h1 h2 _
def uE (x:Str):Prop:=∀c∈x.cps.toList,c=48∨c=49
theorem bM (x y:Str):(x++y).cps.toList=x.cps.toList++y.cps.toList:=by
 show(x.cps++y.cps).toList=_
 simp
theorem str_len (x:Str):x.length=x.cps.toList.length:=by simp[Str.length]
def Sh (n:Nat)(d:PyData):Prop:=d.canLay0=true/\d.depth<=n
theorem Sh.all {n:Nat}:∀{ds:List PyData},(∀d∈ds,Sh n d)->PyData.canLayAll0 ds=true/\PyData.depthAll ds<=n
 | [],_=>⟨by simp[PyData.canLayAll0],by simp[PyData.depthAll]⟩
 | d::ds,h=>by
  obtain⟨h1,h2⟩:=h d Js
  obtain⟨h3,h4⟩:=Sh.all fun e he=>h e (Jo _ he)
  exact⟨by simp[PyData.canLayAll0,h1,h3],by simp only[PyData.depthAll];omega⟩
theorem Sh.list {n:Nat}{ds:List PyData}(h:∀d∈ds,Sh n d):Sh (n+1) (.list ds):=by
 obtain⟨h1,h2⟩:=Sh.all h
 exact⟨by simpa [PyData.canLay0] using h1,by simp only[PyData.depth];omega⟩
theorem Sh.tuple {n:Nat}{ds:List PyData}(h:∀d∈ds,Sh n d):Sh (n+1) (.tuple ds):=by
 obtain⟨h1,h2⟩:=Sh.all h
 exact⟨by simpa [PyData.canLay0] using h1,by simp only[PyData.depth];omega⟩
theorem Sh.shaped {n:Nat}{d:PyData}(h:Sh n d)(hn:n<=64):SeqAt.shaped d=true:=by
 unfold SeqAt.shaped
 rw[h.1,decide_eq_true (Jg h.2 hn)]
 rfl
theorem Sh.str {n:Nat}{x:Str}(h:PyData.canLay0 (.str x)=true):Sh n (.str x):=⟨h,by simp[PyData.depth]⟩
theorem Sh.int {n:Nat}{i:Int}:Sh n (.int i):=⟨by simp[PyData.canLay0],by simp[PyData.depth]⟩
theorem dW {x:Str}(h:∀ch∈x.cps.toList,ch<128):PyData.canLay0 (.str x)=true:=by
 simp only[PyData.canLay0,PyData.strOk]
 rw[<-Array.all_toList,Yk]
 intro ch hc
 have:=h ch hc
 exact decide_eq_true (by omega)
theorem Den.strs {K:Ja}{H:Hp}:∀(xs:List Str),au K H (xs.map PyData.str) (xs.map V.str)
 | []=>by unfold au;rfl
 | x::xs=>by
  rw[Ub]
  unfold au
  exact⟨_,_,rfl,by unfold Den;rfl,Den.strs xs⟩
theorem Den.list {K:Ja}{H:Hp}{l:Addr}{ds:List PyData}{vs:List V}(h:aM K H l vs)(hd:au K H ds vs):Den K H (.list ds) (.ref l):=by
 unfold Den
 exact⟨l,vs,rfl,h,hd⟩
theorem oA {n:Nat}:∀{ds:List PyData} {d:PyData},PyData.depthAll ds<=n->d∈ds->d.depth<=n
 | [],_,_,h=>nomatch h
 | e::ds,d,hn,h=>by
  simp only[PyData.depthAll] at hn
  rcases Jm.mp h with rfl|h
  ·omega
  ·exact oA (by omega) h
theorem eM {n:Nat}:∀{ds:List PyData} {d:PyData},PyData.weightAll ds<=n->d∈ds->d.weight<=n
 | [],_,_,h=>nomatch h
 | e::ds,d,hn,h=>by
  simp only[PyData.weightAll] at hn
  rcases Jm.mp h with rfl|h
  ·omega
  ·exact eM (by omega) h
theorem eK:∀(ds:List PyData),ds.length<=PyData.weightAll ds
 | []=>by simp
 | e::ds=>by
  simp only[PyData.weightAll,J0]
  have:=eK ds
  omega
theorem all_true (n:Nat):(Jv n true).all id=true:=by
 induction n with
 | zero=>rfl
 | succ n ih=>rw[Y5,List.all_cons,ih];rfl
theorem au.of_get {K:Ja}{H:Hp}:∀{ds:List PyData} {vs:List V},ds.length=vs.length->(∀(j:Nat) d v,ds[j]? = some d->vs[j]? = some v->Den K H d v)->au K H ds vs
 | [],[],_,_=>by unfold au;rfl
 | [],_::_,h,_=>by simp at h
 | _::_,[],h,_=>by simp at h
 | d::ds,v::vs,h,g=>by
  unfold au
  exact⟨v,vs,rfl,g 0 d v rfl rfl,au.of_get (by simpa using h) fun j d' v' h1 h2=>g (j+1) d' v' h1 h2⟩
noncomputable def jB (a b:Str):V:=if Txt.startswith a b=true then .str (Txt.slice a (some (b.length:Nat)) none) else if Txt.startswith b a=true then .str (Txt.slice b (some (a.length:Nat)) none) else .non
def rE:Sp:=fun vs H Q _=>∃a b:Str,vs=[.str a,.str b]/\a.length<=1000000/\b.length<=1000000/\Q (jB a b) H
section
variable {P:Program}{w:World}{K:Ja}{mg:Str->Option Value}{base:Heap}{f:Addr}{fd:FuncData}
theorem DM:aR ["one", "other"] ["one", "other"] (av (top lI)):=⟨rfl,rfl,rfl,by decide +kernel,rfl,by decide +kernel,by decide +kernel⟩
theorem EG (F:cR K "rest_of" "rest_of" (top lI) f fd)(T:Nm mg):bC P w K mg base gG 1 f fd ["one", "other"] rE:=by
 refine F.ok DM (fun vs H Q E h =>?_) (fun dI A outer s H vs Q E hr h =>?_)
 ·obtain⟨a,b,rfl,_⟩:=h
  rfl
 unfold rE at h
 refine aj.el h _ ?_
 clear h
 rintro a b rfl ha hb q
 refine⟨_,(af (aX (br (yN K PySem.F.plainAttrs_str PySem.F.slot_str_startswith PySem.F.type_str_startswith jD (pv 0) (aa (pv 1) ae))) (ag (aB (bz (QQ K) (pv 0) (bH (ai (dQ K) rfl T.n_len (by rfl) (aa (pv 1) ae))) bZ))) aN)
  (af (aX (br (yN K PySem.F.plainAttrs_str PySem.F.slot_str_startswith PySem.F.type_str_startswith jD (pv 1) (aa (pv 0) ae))) (ag (aB (bz (QQ K) (pv 1) (bH (ai (dQ K) rfl T.n_len (by rfl) (aa (pv 0) ae))) bZ))) aN)
  (ag (aB cJ)))),?_⟩
 unfold jB at q
 refine⟨_,rfl,rfl,_,rfl,a,b,rfl,rfl,_,rfl,?_⟩
 refine cL (fun c =>?_) (fun c =>?_)
 ·rw[if_pos c] at q
  exact⟨_,rfl,_,rfl,_,_,rfl,⟨sizeOk (Jg hb (by decide)),rfl⟩,_,rfl,.inr ⟨a,rfl,sizeOk (Jg ha (by decide)),q⟩⟩
 ·rw[if_neg c] at q
  refine⟨_,rfl,rfl,_,rfl,b,a,rfl,rfl,_,rfl,?_⟩
  refine cL (fun c =>?_) (fun c =>?_)
  ·rw[if_pos c] at q
   exact⟨_,rfl,_,rfl,_,_,rfl,⟨sizeOk (Jg ha (by decide)),rfl⟩,_,rfl,.inr ⟨b,rfl,sizeOk (Jg hb (by decide)),q⟩⟩
  ·rw[if_neg c] at q
   exact q
end
def MN (bk:List (Str×Str))(j:Nat):Prop:=∀(i' j':Nat) a b,i'<j'->j'<j->bk[i']? = some a->bk[j']? = some b->jB a.2 b.2 = .non
def rz (K:Ja):Sp:=fun vs H Q _=>∃(v:V) (bk:List (Str×Str)),vs=[v]/\Den K H (aI bk) v/\bk.length<=1000/\(∀q∈bk,q.2.length<=200000) /\
 (MN bk bk.length->∀H',ak H H'->Q .non H') /\
 ∀(i j:Nat) a b,bk[i]? = some a->bk[j]? = some b->i<j->MN bk j->(∀(i':Nat) a',i'<i->bk[i']? = some a'->jB a'.2 b.2 = .non)->jB a.2 b.2 ≠ .non ->
  ∀p H',ak H H'->H p=none->H' p=some (.tup [.str a.1,.str b.1])->Q (.ref p) H'
section
variable {P:Program}{w:World}{K:Ja}{mg:Str->Option Value}{base:Heap}{f:Addr}{fd:FuncData}
theorem pR:aR ["book", "at", "other", "code", "one", "code_ahead"] ["book"] (av (top qQ)):=⟨rfl,rfl,rfl,by decide +kernel,rfl,by decide +kernel,by decide +kernel⟩
theorem Bm (vs:List V)(j:Nat)(h:j<=vs.length):jT vs none (some (j:Int))=vs.take j:=by
 unfold jT
 have e:HT.oQ vs.length vs.length (some (j:Int))=j:=by
  unfold HT.oQ
  dsimp only
  rw[if_neg (show ¬((j:Int)<0) by omega)]
  omega
 rw[e]
 show((vs.drop 0).take (j-0))=_
 simp
theorem LR (F:cR K "clash" "clash" (top qQ) f fd)(T:Nm mg)(GY:Fn P w K mg base 1 "rest_of" ["one", "other"] rE):bC P w K mg base gG 2 f fd ["book"] (rz K):=by
 refine F.ok pR (fun vs H Q E h =>?_) (fun dI A outer s H vs Q E hr h =>?_)
 ·obtain⟨v,bk,rfl,_⟩:=h
  rfl
 obtain⟨v,bk,rfl,hD,hlen,hle,q0,q1⟩:=h
 refine⟨_,(af (ip PassesOwn.never rfl (DS rfl T.n_enumerate (aa (pv 0) ae)) (tupK K 2 rfl (bb (aU (i:=1) pR.nd rfl (Or.inl rfl)) (bb (tupK K 2 rfl (bb (aU (i:=2) pR.nd rfl (Or.inl rfl)) (bb (aU (i:=3) pR.nd rfl (Or.inl rfl)) dB))) dB))) (ag (ip PassesOwn.never rfl (AA K (bz (QQ K) (pv 0) bZ (bH (pv 1)))) (tupK K 2 rfl (bb (aU (i:=4) pR.nd rfl (Or.inl rfl)) (bb (aU (i:=5) pR.nd rfl (Or.inl rfl)) dB))) (ag (aX (aK qD (aO GY hr rfl (aa (pv 5) (aa (pv 3) ae))) cJ (aH _)) (ag (aB (BH (aa (pv 4) (aa (pv 2) ae))))) aN)))))
  (ag (aB cJ))),?_⟩
 unfold aI at hD
 unfold Den at hD
 obtain⟨l,vs,rfl,hS,hDs⟩:=hD
 have VX:vs.length=bk.length:=by rw[hDs.len,Je]
 have item:∀i (hi:i<bk.length),∃a,vs[i]? = some (.ref a)/\cE K H a [.str bk[i].1,.str bk[i].2]:=fun i hi=>by
  obtain⟨x,hx,dx⟩:=hDs.get (i:=i) (d := .tuple [.str bk[i].1,.str bk[i].2]) (by rw[Jl,Jc hi];rfl)
  obtain⟨a,rfl,hT⟩:=dx.pair
  exact⟨a,hx,hT⟩
 have wN:∀i (hi:i<bk.length),bk[i].2.length<=1000000:=fun i hi=>Jg (hle _ (Jx hi)) (by decide)
 refine⟨_,rfl,l,rfl,⟨_,hS⟩,?_⟩
 refine lC (N:=bk.length) (fun j σ H'=>ak H H'/\MN bk j/\∃x1 x2 x3 x4 x5,σ=[some (.ref l),x1,x2,x3,x4,x5]) ⟨ak.refl _,fun i' j' a b _ h=>absurd h (Y4 _),_,_,_,_,_,rfl⟩ ?_ ?_
 ·rintro j σ H' hj ⟨sm,nc,x1,x2,x3,x4,x5,rfl⟩
  obtain⟨a,hx,hT⟩:=item j hj
  refine⟨⟨_,_,sm.seq hS,hx⟩,?_⟩
  rintro x H2 ⟨t1,rfl,ht1,hy⟩
  have e:=hy _ _ (sm.seq hS) hx
  subst e
  have iC:=sm.trans (bV ht1 (.tup [.int j,.ref a]))
  refine⟨t1,_,rfl,cE.of aq,rfl,_,_,rfl,_,_,rfl,a,_,rfl,iC.fM hT,rfl,_,_,rfl,_,_,rfl,rfl,rfl,?_⟩
  refine⟨_,rfl,_,rfl,_,rfl,.inl ⟨l,_,rfl,iC.seq hS,fun p hp =>?_⟩⟩
  rw[Bm vs j (by omega)]
  have FT:=iC.trans (bV hp (.lst (vs.take j)))
  refine⟨p,rfl,⟨_,aM.of aq⟩,?_⟩
  refine AY (xs:=vs.take j) (fun i σ H4=>ak (upd (upd H' t1 (.tup [.int j,.ref a])) p (.lst (vs.take j))) H4/\(∀(i':Nat) a',i'<i->bk[i']? = some a'->jB a'.2 bk[j].2 = .non)/\∃y4 y5,σ=[some (.ref l),some (.int j),some (.str bk[j].1),some (.str bk[j].2),y4,y5]) ⟨ak.refl _,fun i' a' h=>absurd h (Y4 _),_,_,rfl⟩ ?_ ?_ ?_
  ·rintro i σ H4 hi ⟨iQ,_,_⟩
   exact iQ.seq (aM.of aq)
  ·rintro i x σ H4 hix ⟨iQ,ng,y4,y5,rfl⟩
   have mL:i<j:=by
    have:=(Jp.mp hix).1
    rw[Um] at this;omega
   have NF:i<bk.length:=by omega
   obtain⟨a',lV,hT'⟩:=item i NF
   rw[List.getElem?_take_of_lt mL,lV] at hix
   cases hix
   have Ao:=FT.trans iQ
   refine⟨a',_,rfl,Ao.fM hT',rfl,_,_,rfl,_,_,rfl,rfl,?_⟩
   refine⟨_,rfl,_,rfl,bk[i].2,bk[j].2,rfl,wN i NF,wN j hj,.inl ⟨rfl,_,rfl,?_⟩⟩
   refine cL (fun c =>?_) (fun c =>?_)
   ·have hr:jB bk[i].2 bk[j].2 ≠ .non:=by simpa using c
    refine⟨_,rfl,_,rfl,by show 2<=sizeLine;decide,fun t2 ht2 =>?_⟩
    exact q1 i j bk[i] bk[j] (Jc NF) (Jc hj) mL nc ng hr t2 _ (Ao.trans (bV ht2 _)) (Ao.free ht2) aq
   ·have hr:jB bk[i].2 bk[j].2 = .non:=by simpa using c
    refine⟨iQ,fun i' b' uQ rZ =>?_,_,_,rfl⟩
    by_cases z:i'<i
    ·exact ng i' b' z rZ
    ·have:i'=i:=by omega
     subst this
     rw[Jc NF] at rZ;cases rZ
     exact hr
  ·rintro σ H4 ⟨iQ,ng,y4,y5,rfl⟩
   refine⟨FT.trans iQ,fun i' j' a1 b1 h1 h2 e1 e2 =>?_,_,_,_,_,_,rfl⟩
   by_cases z:j'<j
   ·exact nc i' j' a1 b1 h1 z e1 e2
   ·have:j'=j:=by omega
    subst this
    rw[Jc hj] at e2;cases e2
    exact ng i' a1 (by rw[Um];omega) e1
 ·rintro σ H' ⟨sm,nc,x1,x2,x3,x4,x5,rfl⟩
  exact⟨⟨_,sm.seq hS,by rw[VX];exact Jd _⟩,q0 nc H' sm⟩
end
noncomputable abbrev sg (x:Str):List Nat:=x.cps.toList
def RF (a b:Str):Prop := ¬(sg a <+: sg b)/\¬(sg b <+: sg a)
theorem RF.symm {a b:Str}(h:RF a b):RF b a:=⟨h.2,h.1⟩
theorem qZ (x y:Str):sg (x++y)=sg x++sg y:=bM x y
theorem RF.ext {a b u v:Str}(h:RF a b):RF (a++u) (b++v):=by
 refine⟨fun z =>?_,fun z =>?_⟩
 ·rw[qZ,qZ] at z
  rcases List.prefix_or_prefix_of_prefix ((List.prefix_append _ _).trans z) (List.prefix_append (sg b) (sg v)) with q|q
  ·exact h.1 q
  ·exact h.2 q
 ·rw[qZ,qZ] at z
  rcases List.prefix_or_prefix_of_prefix ((List.prefix_append _ _).trans z) (List.prefix_append (sg a) (sg u)) with q|q
  ·exact h.2 q
  ·exact h.1 q
abbrev fg (cs:List Str):Prop:=cs.Pairwise RF
theorem fg.perm {cs ds:List Str}(h:fg cs)(p:cs.Perm ds):fg ds:=(p.pairwise_iff fun h=>RF.symm h).mp h
noncomputable abbrev s0:Str := "0"
noncomputable abbrev s1:Str := "1"
theorem RF.two (x:Str):RF (x++s0) (x++s1):=by
 have e0:sg (x++s0)=sg x++[48]:=bM x s0
 have e1:sg (x++s1)=sg x++[49]:=bM x s1
 refine⟨fun z =>?_,fun z =>?_⟩
 ·rw[e0,e1] at z
  have:=z.eq_of_length (by simp)
  simp at this
 ·rw[e0,e1] at z
  have:=z.eq_of_length (by simp)
  simp at this
theorem RF.one {x y u:Str}(h:RF y x):RF y (x++u):=by
 have z:=h.ext (u:=Str.empty) (v:=u)
 have e:y++Str.empty=y:=by
  show(⟨y.cps ++ #[]⟩:Str)=y
  simp
 rw[e] at z
 exact z
theorem fg.split {A B:List Str}{x:Str}(h:fg (A++x::B)):fg (A++[x++s0,x++s1]++B):=by
 rw[List.append_assoc]
 refine aj.el (Yw.mp h) _ ?_
 rintro hA hxB hAB
 obtain⟨hx,hB⟩:=List.pairwise_cons.mp hxB
 refine Yw.mpr ⟨hA,?_,fun a ha y hy =>?_⟩
 ·refine Yw.mpr ⟨List.pairwise_cons.mpr ⟨fun y hy=>by rw[Uc.mp hy];exact RF.two x,List.pairwise_singleton _ _⟩,hB,fun y hy z hz =>?_⟩
  have q:=(hx z hz).symm
  simp at hy
  rcases hy with rfl|rfl
  ·exact q.one.symm
  ·exact q.one.symm
 ·rcases Us.mp hy with hy|hy
  ·have q:=hAB a ha x Js
   simp at hy
   rcases hy with rfl|rfl
   ·exact q.one
   ·exact q.one
  ·exact hAB a ha y (Jo _ hy)
theorem hV (x y:Str):Txt.startswith x y=true↔sg y <+: sg x:=by
 have hl:y.length=(sg y).length:=str_len y
 have hx:x.length=(sg x).length:=str_len x
 have e:(x.cps.extract 0 (0+y.length)==y.cps)=true↔(sg x).take y.length=sg y:=by
  rw[beq_iff_eq,<-Array.toList_inj]
  simp[Array.toList_extract]
 show(decide (0+y.length<=x.length)&&(x.cps.extract 0 (0+y.length)==y.cps))=true↔_
 rw[Jw,decide_eq_true_iff,e]
 constructor
 ·rintro⟨_,h⟩
  rw[<-h]
  exact List.take_prefix _ _
 ·intro h
  exact⟨by have:=h.length_le;omega,by rw[hl];exact(List.prefix_iff_eq_take.mp h).symm⟩
theorem qb {a b:Str}:jB a b = .non↔RF a b:=by
 unfold jB RF
 by_cases h1:Txt.startswith a b=true
 ·rw[if_pos h1]
  exact⟨(fun z=>nomatch z),fun z=>absurd ((hV a b).mp h1) z.2⟩
 ·rw[if_neg h1]
  by_cases h2:Txt.startswith b a=true
  ·rw[if_pos h2]
   exact⟨(fun z=>nomatch z),fun z=>absurd ((hV b a).mp h2) z.1⟩
  ·rw[if_neg h2]
   exact⟨fun _=>⟨fun z=>h2 ((hV b a).mpr z),fun z=>h1 ((hV a b).mpr z)⟩,fun _=>rfl⟩
theorem ya (bk:List (Str×Str)):MN bk bk.length↔fg (bk.map (·.2)):=by
 constructor
 ·intro h
  refine Uq.mpr fun i j hi hj mL =>?_
  rw[Je] at hi hj
  rw[Wd,Wd]
  exact qb.mp (h i j _ _ mL hj (Jc hi) (Jc hj))
 ·intro h i j a b mL hj ha hb
  obtain⟨uQ,rfl⟩:=Jp.mp ha
  obtain⟨Dc,rfl⟩:=Jp.mp hb
  have z:=Uq.mp h i j (by rw[Je];exact uQ) (by rw[Je];exact Dc) mL
  rw[Wd,Wd] at z
  exact qb.mpr z
def wo (K:Ja):Sp:=fun vs H Q _=>∃(v:V) (bk:List (Str×Str)),vs=[v]/\Den K H (aI bk) v/\bk.length<=1000/\(∀q∈bk,q.2.length<=200000) /\
 (fg (bk.map (·.2))->∀H',ak H H'->Q (.bl true) H')/\(¬fg (bk.map (·.2))->∀H',ak H H'->Q (.bl false) H')
section
variable {P:Program}{w:World}{K:Ja}{mg:Str->Option Value}{base:Heap}{f:Addr}{fd:FuncData}
theorem Fj:aR ["book"] ["book"] (av (top vj)):=⟨rfl,rfl,rfl,by decide +kernel,rfl,by decide +kernel,by decide +kernel⟩
theorem EK (F:cR K "free" "free" (top vj) f fd)(T:Nm mg)(Fg:Fn P w K mg base 2 "clash" ["book"] (rz K)):bC P w K mg base gG 3 f fd ["book"] (wo K):=by
 refine F.ok Fj (fun vs H Q E h =>?_) (fun dI A outer s H vs Q E hr h =>?_)
 ·obtain⟨v,bk,rfl,_⟩:=h
  rfl
 obtain⟨v,bk,rfl,hD,hl,hc,q1,q2⟩:=h
 refine⟨_,(ag (aB (cQ DU (aO (Fg.mono (by decide)) hr rfl (aa (pv 0) ae)) cJ (aH _)))),?_⟩
 refine⟨_,rfl,v,bk,rfl,hD,hl,hc,fun nc H' sm =>.inl ⟨rfl,q1 ((ya bk).mp nc) H' sm⟩,fun i j a b ha hb mL _ _ C5 p H' sm hp hp' =>.inl ⟨rfl,q2 (fun fr =>?_) H' sm⟩⟩
 exact C5 ((ya bk).mpr fr i j a b mL (Jp.mp hb).1 ha hb)
end
end Z
set_option maxHeartbeats 30000000
namespace Z
open PySem L2
noncomputable abbrev dF:Str := "01"
noncomputable abbrev qX:Str := "abcdefghijklmnopqrstuvwxyz"
noncomputable def fJ (x y:Str):Bool:=decide (V.str (Txt.stripChars x y)=V.str (Str.ofString ""))
noncomputable def cM:PyData->Bool
 | .str x=>decide ((1:Int)<=(x.length:Nat))&&(decide (((x.length:Nat):Int)<=8)&&fJ x qX)
 | _=>false
noncomputable def cj:PyData->Bool
 | .str x => !decide (V.str x=V.str (Str.ofString ""))&&fJ x dF
 | _=>false
noncomputable def bg:PyData->Bool
 | .tuple [a,b]=>cM a&&cj b
 | _=>false
noncomputable def fF:PyData->Str
 | .tuple (.str x::_)=>x
 | _=>Str.empty
noncomputable def cq:PyData->Bool
 | .list ds => !ds.isEmpty&&(ds.all bg&&decide ((bR (fun i=>(ds.map fF).getD i Str.empty) ds.length).length=ds.length))
 | _=>false
def m6 (K:Ja):Sp:=fun vs H Q _=>∃(v:V) (d:PyData),vs=[v]/\Den K H d v/\d.weight<=300000/\SeqAt.shaped d=true/\(∀ds,d = .list ds->ds.length<=4000)/\∀H',ak H H'->Q (.bl (cq d)) H'
def rB:Sp:=fun vs H Q _=>∃x y:Str,vs=[.str x,.str y]/\x.length<=1000000/\Q (.bl (fJ x y)) H
def ko (K:Ja)(f:PyData->Bool):Sp:=fun vs H Q _=>∃(v:V) (d:PyData),vs=[v]/\Den K H d v/\d.weight<=1000000/\∀H',ak H H'->Q (.bl (f d)) H'
section
variable {P:Program}{w:World}{K:Ja}{mg:Str->Option Value}{base:Heap}{f:Addr}{fd:FuncData}{t1 t2 t3:Tok}
theorem wz:aR ["text", "signs"] ["text", "signs"] (av (top lQ)):=⟨rfl,rfl,rfl,by decide +kernel,rfl,by decide +kernel,by decide +kernel⟩
theorem Dn (F:cR K "made_of" "made_of" (top lQ) f fd)(T:Nm mg):bC P w K mg base gG 1 f fd ["text", "signs"] rB:=by
 refine F.ok wz (fun vs H Q E h =>?_) (fun dI A outer s H vs Q E hr h =>?_)
 ·obtain⟨x,y,rfl,_⟩:=h
  rfl
 obtain⟨x,y,rfl,hx,q⟩:=h
 have cY:=hr.units
 refine⟨_,(ag (aB (cQ (jM K cY) (yN K PySem.F.plainAttrs_str PySem.F.slot_str_strip PySem.F.type_str_strip yE (pv 0) (aa (pv 1) ae)) aD (aH _)))),?_⟩
 exact⟨_,rfl,rfl,_,rfl,x,y,rfl,rfl,sizeOk (Jg hx (by decide)),.inl ⟨rfl,q⟩⟩
theorem vC:aR ["thing"] ["thing"] (av (top lh)):=⟨rfl,rfl,rfl,by decide +kernel,rfl,by decide +kernel,by decide +kernel⟩
theorem Ak (F:cR K "is_name" "is_name" (top lh) f fd)(T:Nm mg)(fO:mg "LONGEST_NAME" = some (.int 8 t1))(fx:mg "SMALL_LETTERS" = some (.str qX t2))(lJ:Fn P w K mg base 1 "made_of" ["text", "signs"] rB):bC P w K mg base gG 2 f fd ["thing"] (ko K cM):=by
 refine F.ok vC (fun vs H Q E h =>?_) (fun dI A outer s H vs Q E hr h =>?_)
 ·obtain⟨v,d,rfl,_⟩:=h
  rfl
 obtain⟨v,d,rfl,hd,hw,q⟩:=h
 have cY:=hr.units
 have hq:=q H (ak.refl _)
 refine⟨_,(ag (aB (dY (ai (eV K) rfl T.n_isinstance (by rfl) (aa (pv 0) (aa (aY rfl T.n_str (by rfl) (v := .ty "str") rfl) ae))) (dY (tN mY mY ah (ai (dQ K) rfl T.n_len (by rfl) (aa (pv 0) ae)) (mJ rfl fO)) (iL (aO (lJ.mono (by decide)) hr rfl (aa (pv 0) (aa (xF rfl fx) ae)))))))),?_⟩
 refine⟨_,rfl,.inl ⟨_, "str",d,_,rfl,hd,(iw K d).2.2.1,_,rfl,?_⟩⟩
 cases d with
 | str x=>
  have e:=hd
  unfold Den at e
  subst e
  have M0:x.length<=1000000:=hw
  refine bw ⟨_,rfl,_,_,rfl,⟨sizeOk (Jg M0 (by decide)),rfl⟩,_,_,rfl,rfl,_,rfl,?_⟩
  have hq:Q (.bl (decide ((1:Int)<=(x.length:Nat))&&(decide (((x.length:Nat):Int)<=8)&&fJ x qX))) H:=hq
  refine cL (fun c1 =>?_) (fun c1 =>?_)
  ·rw[c1,U3] at hq
   refine⟨_,_,rfl,rfl,_,rfl,cL (fun c2 =>?_) (fun c2 =>?_)⟩
   ·rw[c2,U3] at hq
    exact⟨_,rfl,x,_,rfl,M0,hq⟩
   ·rw[Uv.mpr c2,U9] at hq
    exact hq
  ·rw[Uv.mpr c1,U9] at hq
   exact⟨_,rfl,bh hq⟩
 | _=>exact bh hq
theorem wx:aR ["thing"] ["thing"] (av (top lD)):=⟨rfl,rfl,rfl,by decide +kernel,rfl,by decide +kernel,by decide +kernel⟩
theorem zR (F:cR K "is_code" "is_code" (top lD) f fd)(T:Nm mg)(qy:mg "SIGNS" = some (.str dF t3))(lJ:Fn P w K mg base 1 "made_of" ["text", "signs"] rB):bC P w K mg base gG 2 f fd ["thing"] (ko K cj):=by
 refine F.ok wx (fun vs H Q E h =>?_) (fun dI A outer s H vs Q E hr h =>?_)
 ·obtain⟨v,d,rfl,_⟩:=h
  rfl
 obtain⟨v,d,rfl,hd,hw,q⟩:=h
 have cY:=hr.units
 have hq:=q H (ak.refl _)
 refine⟨_,(ag (aB (dY (ai (eV K) rfl T.n_isinstance (by rfl) (aa (pv 0) (aa (aY rfl T.n_str (by rfl) (v := .ty "str") rfl) ae))) (dY (cQ (zj K cY) (pv 0) aD (aH _)) (iL (aO (lJ.mono (by decide)) hr rfl (aa (pv 0) (aa (xF rfl qy) ae)))))))),?_⟩
 refine⟨_,rfl,.inl ⟨_, "str",d,_,rfl,hd,(iw K d).2.2.1,_,rfl,?_⟩⟩
 cases d with
 | str x=>
  have e:=hd
  unfold Den at e
  subst e
  have M0:x.length<=1000000:=hw
  have hq:Q (.bl (!decide (V.str x=V.str (Str.ofString ""))&&fJ x dF)) H:=hq
  refine bw ⟨_,rfl,.inl ⟨rfl,_,rfl,cL (fun c1 =>?_) (fun c1 =>?_)⟩⟩
  ·rw[c1,U3] at hq
   exact⟨_,rfl,x,_,rfl,M0,hq⟩
  ·rw[Uv.mpr c1,U9] at hq
   exact hq
 | _=>exact bh hq
theorem sF:aR ["thing"] ["thing"] (av (top jH)):=⟨rfl,rfl,rfl,by decide +kernel,rfl,by decide +kernel,by decide +kernel⟩
theorem uZ (F:cR K "is_entry" "is_entry" (top jH) f fd)(T:Nm mg)(zi:Fn P w K mg base 2 "is_name" ["thing"] (ko K cM))(yH:Fn P w K mg base 2 "is_code" ["thing"] (ko K cj)):bC P w K mg base gG 3 f fd ["thing"] (ko K bg):=by
 refine F.ok sF (fun vs H Q E h =>?_) (fun dI A outer s H vs Q E hr h =>?_)
 ·obtain⟨v,d,rfl,_⟩:=h
  rfl
 obtain⟨v,d,rfl,hd,hw,q⟩:=h
 have cY:=hr.units
 refine⟨_,(ag (aB (dY (ai (eV K) rfl T.n_isinstance (by rfl) (aa (pv 0) (aa (aY rfl T.n_tuple (by rfl) (v := .ty "tuple") rfl) ae))) (dY (cQ (jM K cY) (ai (dQ K) rfl T.n_len (by rfl) (aa (pv 0) ae)) ah (aH _)) (dY (aO (zi.mono (by decide)) hr rfl (aa (aV (eB K) (pv 0) ah (fun _ _=>rfl)) ae)) (iL (aO (yH.mono (by decide)) hr rfl (aa (aV (eB K) (pv 0) ah (fun _ _=>rfl)) ae)))))))),?_⟩
 refine⟨_,rfl,.inl ⟨_, "tuple",d,_,rfl,hd,(iw K d).2.2.2.2,_,rfl,?_⟩⟩
 cases d with
 | tuple ds=>
  have e:=hd
  unfold Den at e
  obtain⟨a,us,rfl,hT,dk⟩:=e
  have hl:=dk.len
  refine bw ⟨_,rfl,_,_,rfl,.inr ⟨_,hT,rfl⟩,.inl ⟨rfl,_,rfl,cL (fun c1 =>?_) (fun c1 =>?_)⟩⟩
  ·have c1:V.int ((us.length:Nat):Int)=V.int 2:=of_decide_eq_true c1
   have c1:us.length=2:=by injection c1 with c1;omega
   rw[hl] at c1
   match ds,c1,dk,hw,q with
   | [d1,d2],_,dk,hw,q=>
    unfold au at dk
    obtain⟨v1,r1,rfl,h1,dk⟩:=dk
    unfold au at dk
    obtain⟨v2,r2,rfl,h2,dk⟩:=dk
    unfold au at dk
    subst dk
    have hw:PyData.weight d1+1+(PyData.weight d2+1+0)<=1000000:=by simpa only [PyData.weight,PyData.weightAll] using hw
    have q:∀H',ak H H'->Q (.bl (cM d1&&cj d2)) H':=q
    refine⟨_,rfl,.inr (.inl ⟨a,_,0,_,rfl,rfl,hT,rfl,v1,d1,rfl,h1,by omega,fun H1 sm1=>⟨_,rfl,cL (fun c2 =>?_) (fun c2 =>?_)⟩⟩)⟩
    ·refine⟨_,rfl,.inr (.inl ⟨a,_,1,_,rfl,rfl,sm1.fM hT,rfl,v2,d2,rfl,h2.same sm1,by omega,fun H2 iC =>?_⟩)⟩
     have z:=q H2 (sm1.trans iC)
     rw[c2,U3] at z
     exact z
    ·have z:=q H1 sm1
     rw[Uv.mpr c2,U9] at z
     exact z
  ·have c1:¬(V.int ((us.length:Nat):Int)=V.int 2):=of_decide_eq_false (Uv.mpr c1)
   have z:=q H (ak.refl _)
   have e:bg (.tuple ds)=false:=by
    match ds,hl with
    | [],_=>rfl
    | [_],_=>rfl
    | [_,_],hl=>exact absurd (by rw[hl];rfl) c1
    | _::_::_::_,_=>rfl
   rw[e] at z
   exact z
 | _=>exact bh (q H (ak.refl _))
theorem BE {d:PyData}(h:cM d=true):∃x,d = .str x:=by
 cases d<;>first|exact⟨_,rfl⟩|(simp[cM] at h)
theorem CU {d:PyData}(h:cj d=true):∃x,d = .str x:=by
 cases d<;>first|exact⟨_,rfl⟩|(simp[cj] at h)
theorem oq {d:PyData}(h:bg d=true):∃x y:Str,d = .tuple [.str x,.str y]:=by
 cases d with
 | tuple ds=>
  match ds,h with
  | [],h=>simp[bg] at h
  | [_],h=>simp[bg] at h
  | [a,b],h=>
   have h:(cM a&&cj b)=true:=h
   rw[Jw] at h
   obtain⟨x,rfl⟩:=BE h.1
   obtain⟨y,rfl⟩:=CU h.2
   exact⟨x,y,rfl⟩
  | _::_::_::_,h=>simp[bg] at h
 | _=>simp[bg] at h
theorem xv (ds:List PyData):PyData.eqv (.list ds) (.list [])=ds.isEmpty:=by
 cases ds<;>simp[PyData.eqv,PyData.eqvAll]
theorem vg:aR ["thing"] ["thing"] (av (top lg)):=⟨rfl,rfl,rfl,by decide +kernel,rfl,by decide +kernel,by decide +kernel⟩
theorem yR (F:cR K "is_book" "is_book" (top lg) f fd)(T:Nm mg)(vA:Fn P w K mg base 3 "is_entry" ["thing"] (ko K bg)):bC P w K mg base gG 4 f fd ["thing"] (m6 K):=by
 refine F.ok vg (fun vs H Q E h =>?_) (fun dI A outer s H vs Q E hr h =>?_)
 ·obtain⟨v,d,rfl,_⟩:=h
  rfl
 obtain⟨v,d,rfl,hd,hw,JE,yq,q⟩:=h
 have cY:=hr.units
 refine⟨_,(af (aX (PW.pt (gh (bT (br (ai (eV K) rfl T.n_isinstance (by rfl) (aa (pv 0) (aa (aY rfl T.n_list (by rfl) (v := .ty "list") rfl) ae))))) (fq (aK (jM K cY) (pv 0) (eY ae) (aH _))))) (ag (aB fG)) aN)
  (af (aX (bT (br (ai (DE K rfl) rfl T.n_all (by rfl) (aa (cW rfl (cP (Nc:=["part"]) (Fc:=[]) (js:=[])) (AA K (pv 0)) (cc (i:=0) (n:=1) (by decide)) (fun _ _ _ _ _=>(aU (i:=0) (rY ["part"]) rfl (Or.inl rfl))) (fun _ _ _ _ _=>di) (fun _ _ _ _ _=>(aO (vA.mono (by decide)) hr rfl (aa (pv 0) ae)))) ae)))) (ag (aB fG)) aN)
  (ag (aB (cQ (jM K cY) (ai (Aj (EZ P w)) rfl T.n_len (by rfl) (aa (Bp (EZ P w) rfl (cP (Nc:=["name", "code"]) (Fc:=[]) (js:=[])) (AA K (pv 0)) (ra (eW (cc (i:=0) (n:=2) (by decide)) (eW (cc (i:=1) (n:=2) (by decide)) mG dC gm) dC (km dC gm))) (fun _ _ _ _ _=>(tupK K 2 rfl (bb (aU (i:=0) (rY ["name", "code"]) rfl (Or.inl rfl)) (bb (aU (i:=1) (rY ["name", "code"]) rfl (Or.inl rfl)) dB)))) (fun _ _ _ _ _=>di) (fun _ _ _ _ _=>(pv 0))) ae)) (ai (dQ K) rfl T.n_len (by rfl) (aa (pv 0) ae)) (aH _)))))),?_⟩
 refine⟨_,rfl,.inl ⟨_, "list",d,_,rfl,hd,(iw K d).2.2.2.1,_,rfl,?_⟩⟩
 cases d with
 | list ds=>
  have e:=hd
  unfold Den at e
  obtain⟨a,us,rfl,hS,dk⟩:=e
  have hl:=dk.len
  have yq:=yq ds rfl
  have Lv:PyData.weightAll ds<=300000:=by simpa only [PyData.weight] using hw
  refine bh ⟨_,rfl,by show 0<=sizeLine;decide,fun pe H1 n1 =>?_⟩
  have Rj:Den K H1 (.list []) (.ref pe):=Den.list (aM.of n1.at) (Den.strs [])
  refine .inr ⟨_,_,hd.same n1.same,Rj,JE,by decide +kernel,_,rfl,?_⟩
  rw[xv]
  cases hem:ds.isEmpty with
  | true=>
   have z:=q H1 n1.same
   have e:cq (.list ds)=false:=by simp[cq,hem]
   rw[e] at z
   exact bw z
  | false=>
   refine bh ?_
   have mD:=n1.same.seq hS
   have Ka:=dk.same n1.same
   have lw:=eK ds
   refine⟨_,rfl,a,rfl,⟨_,mD⟩,?_⟩
   refine dj (N:=ds.length) (fun i ys H'=>ak H1 H'/\ys=((ds.take i).map bg).map V.bl) ⟨ak.refl _,rfl⟩ ?_ ?_
   ·rintro i ys H2 Nx hi ⟨iC,rfl⟩ nx
    obtain⟨x,hx,dx⟩:=Ka.get (i:=i) (Jc hi)
    refine⟨⟨_,_,iC.seq mD,hx⟩,J3 (show _<=300000 by rw[Je,Je,Um];omega) (by decide),?_⟩
    rintro x' H3 ⟨rfl,hy⟩
    have e:=hy _ (iC.seq mD)
    rw[hx] at e;cases e
    refine gn ⟨_,rfl,_,_,rfl,dx.same iC,Jg (eM (n:=300000) Lv (Jx hi)) (by decide),fun H4 iQ=>nx _ _ ⟨iC.trans iQ,?_⟩⟩
    rw[Ul hi,Ue,Ue]
    rfl
   ·rintro ys H2 ⟨iC,rfl⟩
    refine⟨⟨_,iC.seq mD,by rw[hl];exact Jd _⟩,fun p hp =>?_⟩
    rw[Wa]
    refine⟨p,_,rfl,aM.of aq,_,rfl,?_⟩
    have En:ak H1 (upd H2 p (.lst ((ds.map bg).map V.bl))):=iC.trans (bV hp _)
    have DT:(ds.map bg).any id=ds.any bg:=by rw[List.any_map];rfl
    have DT:(ds.map bg).all id=ds.all bg:=by rw[List.all_map];rfl
    rw[DT]
    cases gf:ds.all bg with
    | false=>
     have z:=q _ (n1.same.trans En)
     have e:cq (.list ds)=false:=by simp[cq,hem,gf]
     rw[e] at z
     exact bw z
    | true=>
     refine bh ?_
     generalize upd H2 p (.lst ((ds.map bg).map V.bl))=H3 at En
     have ent:∀i (hi:i<ds.length),∃x y:Str,ds[i] = .tuple [.str x,.str y]:=fun i hi=>oq (Yk.mp gf _ (Jx hi))
     refine⟨_,rfl,a,rfl,⟨_,En.seq mD⟩,fun D hD =>?_⟩
     refine BN (N:=ds.length) (fun i H'=>H' D=some (jh (EZ P w) D (bR (fun i=>(ds.map fF).getD i Str.empty) i))/\∀a u,a≠D->H3 a=some u->H' a=some u) ⟨aq,fun a u h e=>by rw[ao h];exact e⟩ ?_ ?_
     ·rintro i H4 Nx hi ⟨Mu,kp⟩ nx
      obtain⟨x,hx,dx⟩:=(Ka.same En).get (i:=i) (Jc hi)
      obtain⟨nm,cd,ed⟩:=ent i hi
      rw[ed] at dx
      obtain⟨pa,rfl,hT⟩:=dx.pair
      have iQ:ak H3 H4:=fun a u e=>kp a u (aF e hD) e
      refine⟨⟨_,_,iQ.seq (En.seq mD),hx⟩,?_⟩
      rintro x' H5 ⟨rfl,hy⟩
      have e:=hy _ (iQ.seq (En.seq mD))
      rw[hx] at e;cases e
      have Vi:(ds.map fF).getD i Str.empty=nm:=by
       rw[show(ds.map fF).getD i Str.empty=((ds.map fF)[i]?).getD Str.empty from rfl,Jl,Jc hi,ed]
       rfl
      have ml:=jF (fun i=>(ds.map fF).getD i Str.empty) i
      refine⟨pa,_,rfl,iQ.fM hT,rfl,_,_,rfl,_,_,rfl,rfl,_,rfl,_,nm,Mu,rfl,by omega,nx _ ⟨?_,fun a u h e =>?_⟩⟩
      ·rw[aq]
       show _=some (jh (EZ P w) D (oneMore (bR (fun i=>(ds.map fF).getD i Str.empty) i) ((ds.map fF).getD i Str.empty)))
       rw[Vi]
       rfl
      ·rw[ao h]
       exact kp a u h e
     ·rintro H4 ⟨Mu,kp⟩
      have iQ:ak H3 H4:=fun a u e=>kp a u (aF e hD) e
      refine⟨⟨_,iQ.seq (En.seq mD),by rw[hl];exact Jd _⟩,?_⟩
      refine⟨D,_,rfl,Mu,_,rfl,_,_,rfl,.inl ⟨_,iQ.seq (En.seq mD),rfl⟩,.inl ⟨rfl,?_⟩⟩
      have z:=q H4 (n1.same.trans (En.trans iQ))
      have e:cq (.list ds)=decide (V.int ((bR (fun i=>(ds.map fF).getD i Str.empty) ds.length).length:Nat)=V.int (us.length:Nat)):=by
       show(!ds.isEmpty&&(ds.all bg&&decide ((bR (fun i=>(ds.map fF).getD i Str.empty) ds.length).length=ds.length)))=_
       rw[hem,gf,Bool.not_false,U3,U3,Y3,decide_eq_true_iff,decide_eq_true_iff,hl]
       constructor
       ·intro z;rw[z]
       ·intro z;injection z with z;omega
      rw[e] at z
      exact z
 | _=>exact bw (q H (ak.refl _))
end
theorem nJ {H:Hp}{b c:Addr}:ak (dN H b c) H:=fun a o e=>(cA e).1
theorem ig {K:Ja}{H:Hp}{ds:List PyData}{vs:List V}{j:Nat}{d:PyData}{v:V}(h:au K H ds vs)(hd:ds[j]? = some d)(hv:vs[j]? = some v):Den K H d v:=by
 obtain⟨u,hu,q⟩:=h.get hd
 rw[hv] at hu;cases hu
 exact q
theorem qx {K:Ja}{H:Hp}{ds:List PyData}{vs:List V}{k:Nat}{d:PyData}{v:V}(h:au K H ds vs)(q:Den K H d v):au K H (ds.set k d) (vs.set k v):=by
 have hl:=h.len
 refine au.of_get (by rw[U8,U8,hl]) fun j d' v' h1 h2 =>?_
 rw[List.getElem?_set] at h1 h2
 by_cases e:k=j
 ·rw[if_pos e] at h1 h2
  by_cases z:j<ds.length
  ·rw[if_pos (by omega)] at h1 h2
   cases h1;cases h2;exact q
  ·rw[if_neg (by omega)] at h1
   cases h1
 ·rw[if_neg e] at h1 h2
  exact ig h h1 h2
theorem xg {K:Ja}{H:Hp}{ds:List PyData}{vs:List V}(h:au K H ds vs):au K H ds.reverse vs.reverse:=by
 have hl:=h.len
 refine au.of_get (by rw[U7,U7,hl]) fun j d' v' h1 h2 =>?_
 have hj:j<ds.length:=by have:=(Jp.mp h1).1;rw[U7] at this;exact this
 rw[List.getElem?_reverse hj] at h1
 rw[List.getElem?_reverse (by omega),hl] at h2
 exact ig h h1 h2
theorem pQ {K:Ja}{H:Hp}{ds:List PyData}{vs:List V}(h:au K H ds vs)(n:Nat):au K H (ds.take n) (vs.take n):=by
 have hl:=h.len
 refine au.of_get (by rw[Um,Um,hl]) fun j d' v' h1 h2 =>?_
 rw[List.getElem?_take] at h1 h2
 by_cases e:j<n
 ·rw[if_pos e] at h1 h2
  exact ig h h1 h2
 ·rw[if_neg e] at h1;cases h1
theorem EH {K:Ja}{H:Hp}{ds:List PyData}{vs:List V}{d:PyData}{v:V}(h:au K H ds vs)(q:Den K H d v):au K H (ds++[d]) (vs++[v]):=by
 have hl:=h.len
 refine au.of_get (by simp[hl]) fun j d' v' h1 h2 =>?_
 by_cases e:j<ds.length
 ·rw[Uy e] at h1
  rw[Uy (by omega)] at h2
  exact ig h h1 h2
 ·rw[Ux (by omega)] at h1
  rw[Ux (by omega),hl] at h2
  have:j-ds.length=0:=by
   have:=(Jp.mp h1).1
   simp at this;omega
  rw[this] at h1 h2
  cases h1;cases h2;exact q
noncomputable def RM:List PyData->Bool
 | []=>true
 | .int _::_=>false
 | _::_=>true
mutual
noncomputable def I0:PyData->Bool
 | .list ds=>RM ds&&wJ ds
 | .tuple ds=>wJ ds
 | _=>true
noncomputable def wJ:List PyData->Bool
 | []=>true
 | d::ds=>I0 d&&wJ ds
end
theorem DV {K:Ja}{H:Hp}{d:PyData}{i:Int}(h:Den K H d (.int i)):d = .int i:=by
 cases d with
 | int k=>unfold Den at h;cases h;rfl
 | none=>unfold Den at h;cases h
 | bool b=>unfold Den at h;cases h
 | str x=>unfold Den at h;cases h
 | list ds=>unfold Den at h;obtain⟨_,_,e,_⟩:=h;cases e
 | tuple ds=>unfold Den at h;obtain⟨_,_,e,_⟩:=h;cases e
 | dict _=>unfold Den at h;exact h.elim
mutual
theorem Den.hide {K:Ja}{H:Hp}{b c:Addr}{t:Int}(bx:Bx H b c t):∀{d:PyData} {v:V},I0 d=true->Den K H d v->Den K (dN H b c) d v
 | .none,_,_,h=>by unfold Den at h ⊢;exact h
 | .bool _,_,_,h=>by unfold Den at h ⊢;exact h
 | .int _,_,_,h=>by unfold Den at h ⊢;exact h
 | .str _,_,_,h=>by unfold Den at h ⊢;exact h
 | .list ds,_,n,h=>by
  unfold Den at h ⊢
  unfold I0 at n
  rw[Jw] at n
  obtain⟨a,vs,h1,h2,h3⟩:=h
  refine⟨a,vs,h1,?_,au.hide bx n.2 h3⟩
  obtain⟨ns,bx⟩:=bx
  rcases h2 with (h2|⟨o,h2⟩)|h2
  ·refine .inl (.inl ?_)
   rw[bL (fun z=>by rw[z,bx.d] at h2;cases h2) (fun z =>?_)]
   ·exact h2
   rw[z,bx.l] at h2
   cases h2
   cases ds with
   | nil=>
    unfold au at h3
    have:=bx.ne
    cases ns with
    | nil=>exact absurd this (by decide)
    | cons i ns=>cases h3
   | cons d ds=>
    unfold au at h3
    obtain⟨v,r,e,hv,_⟩:=h3
    cases ns with
    | nil=>cases e
    | cons i ns=>
     cases e
     rw[DV hv] at n
     exact absurd n.1 (by simp[RM])
  ·refine .inl (.inr ⟨o,?_⟩)
   rw[bL (fun z=>by rw[z,bx.d] at h2;cases h2) (fun z=>by rw[z,bx.l] at h2;cases h2)]
   exact h2
  ·exact .inr h2
 | .tuple ds,_,n,h=>by
  unfold Den at h ⊢
  unfold I0 at n
  obtain⟨a,vs,h1,h2,h3⟩:=h
  refine⟨a,vs,h1,?_,au.hide bx n h3⟩
  obtain⟨ns,bx⟩:=bx
  rcases h2 with (h2|⟨o,h2⟩)|h2
  ·refine .inl (.inl ?_)
   rw[bL (fun z=>by rw[z,bx.d] at h2;cases h2) (fun z=>by rw[z,bx.l] at h2;cases h2)]
   exact h2
  ·refine .inl (.inr ⟨o,?_⟩)
   rw[bL (fun z=>by rw[z,bx.d] at h2;cases h2) (fun z=>by rw[z,bx.l] at h2;cases h2)]
   exact h2
  ·exact .inr h2
 | .dict _,_,_,h=>by unfold Den at h;exact h.elim
theorem au.hide {K:Ja}{H:Hp}{b c:Addr}{t:Int}(bx:Bx H b c t):∀{ds:List PyData} {vs:List V},wJ ds=true->au K H ds vs->au K (dN H b c) ds vs
 | [],_,_,h=>by unfold au at h ⊢;exact h
 | d::ds,_,n,h=>by
  unfold au at h ⊢
  unfold wJ at n
  rw[Jw] at n
  obtain⟨v,r,h1,h2,h3⟩:=h
  exact⟨v,r,h1,Den.hide bx n.1 h2,au.hide bx n.2 h3⟩
end
theorem vI {i:Int}(h:i.natAbs<2^200):PyData.weight (.int i)<=201:=by
 simp only[PyData.weight]
 split
 ·omega
 ·rename_i h0
  have C5:i.natAbs≠0:=by
   intro z
   exact h0 (by simp;omega)
  have:=(Nat.log2_lt C5).mpr h
  omega
def rP (K:Ja):Sp:=fun vs H Q _=>fE fun(a:Addr) (ns:List Int)=>vs=[.ref a]/\aM K H a (ns.map V.int)/\ns.length<=63 /\
 ∀(b c:Addr) (H':Hp),Bx H' b c 0->H b=none->H c=none->ak H (dN H' b c)->Q (.ref b) H'
theorem Den.ints {K:Ja}{H:Hp}:∀(ns:List Int),au K H (ns.map PyData.int) (ns.map V.int)
 | []=>by unfold au;rfl
 | n::ns=>by
  rw[Ub,Ub]
  unfold au
  exact⟨_,_,rfl,by unfold Den;rfl,Den.ints ns⟩
theorem B4 (ds:List PyData):PyData.eqv (.list ds) (.list [])=ds.isEmpty:=by
 cases ds<;>simp[PyData.eqv,PyData.eqvAll]
theorem Dy {n:Nat}(ns:List Int):Sh (n+1) (.list (ns.map PyData.int)):=Sh.list fun d hd=>by
 refine aj.el (Ur.mp hd) _ ?_
 rintro i _ rfl
 exact Sh.int
section
variable {P:Program}{w:World}{K:Ja}{mg:Str->Option Value}{base:Heap}{f:Addr}{fd:FuncData}
theorem hR:aR ["_law_script", "_law_cells"] ["_law_script"] (av (top jf)):=⟨rfl,rfl,rfl,by decide +kernel,rfl,by decide +kernel,by decide +kernel⟩
theorem CD (F:cR K "_law_begin" "_law_begin" (top jf) f fd)(T:Nm mg):bC P w K mg base gG 1 f fd ["_law_script"] (rP K):=by
 refine F.ok hR (fun vs H Q E h =>?_) (fun dI A outer s H vs Q E hr h =>?_)
 ·obtain⟨a,ns,rfl,_⟩:=h
  rfl
 obtain⟨a,ns,rfl,hS,hlen,q⟩:=h
 have cY:=hr.units
 refine⟨_,(af (aL (i:=1) hR.nd rfl (Or.inl rfl) (ba (mi K) rfl T.n_list (by rfl) (aa (bz (ue K) (pv 0) bZ (bH ah)) ae)))
  (af (aX (aK (jM K cY) (pv 1) (eY ae) (aH _)) (ag (aL (i:=1) hR.nd rfl (Or.inl rfl) (eY (aa ah ae)))) aN)
  (ag (aB (Li (tj aD (pv 1) (tj aD ah DF)) rfl rfl (by decide) (by decide)))))),?_⟩
 refine⟨_,rfl,_,rfl,.inl ⟨a,_,rfl,hS,fun r1 H1 n1 =>?_⟩⟩
 refine⟨r1,_,rfl,.inl (aM.of n1.at),fun r2 H2 n2=>gn ?_⟩
 have hc:jT (ns.map V.int) none (some 63)=ns.map V.int:=by
  have e:=v9 (ns.map V.int) 63
  rw[Ym (by rw[Je];exact hlen)] at e
  exact e
 have Hi:H2 r2=some (.lst (ns.map V.int)):=by rw[<-hc];exact n2.at
 have iC:=n1.same.trans n2.same
 dsimp only
 refine dP (t:=zb _ _ _) (fun σ H'=>fE fun(r:Addr) (Es:List Int) =>σ=[some (.ref a),some (.ref r)]/\H' r=some (.lst (Es.map V.int))/\0<Es.length/\Es.length<=64/\H r=none/\ak H H') (fun Nx nx =>?_) ?_
 ·refine⟨_,rfl,by show 0<=sizeLine;decide,fun r3 H3 n3 =>?_⟩
  have d2:Den K H3 (.list (ns.map PyData.int)) (.ref r2):=Den.list (aM.of (n3.same _ _ Hi)) (Den.ints ns)
  have d3:Den K H3 (.list []) (.ref r3):=Den.list (aM.of n3.at) (Den.ints [])
  refine .inr ⟨_,_,d2,d3,(Dy (n:=1) ns).shaped (by decide),by decide +kernel,_,rfl,?_⟩
  rw[B4]
  refine cL (fun e =>?_) (fun e =>?_)
  ·refine⟨by show 1<=sizeLine;decide,fun r4 H4 n4=>gn (nx _ _ ⟨r4,[_],rfl,n4.at,by decide,by decide,(iC.trans n3.same).free n4.nn,iC.trans (n3.same.trans n4.same)⟩)⟩
  ·refine nx _ _ ⟨r2,ns,rfl,n3.same _ _ Hi,?_,by omega,n1.same.free n2.nn,iC.trans n3.same⟩
   cases ns with
   | nil=>exact absurd rfl e
   | cons _ _=>exact Nat.succ_pos _
 intro σ H3
 refine aj.go ?_
 rintro r Es rfl hr' l0 l1 hn sm
 intro p H0 n0
 refine⟨_,rfl,?_⟩
 refine⟨n0.at,[(.inr "cells",.ref r),(.inr "turn",.int 0)],rfl,by show 2<=15;decide,fun H6 n6 =>?_⟩
 have E8:r≠p:=aF hr' n0.nn
 have hp:H p=none:=sm.free n0.nn
 refine q p r H6 ⟨Es,?_,?_,l0,l1⟩ hp hn (fun b o e =>?_)
 ·rw[n6.at];rfl
 ·rw[n6.ne E8,n0.ne E8];exact hr'
 ·have JL:b≠p:=aF e hp
  have JD:b≠r:=aF e hn
  rw[bL JL JD,n6.ne JL,n0.ne JL]
  exact sm _ _ e
end
theorem pP {K:Ja}{H:Hp}:∀{ns:List Int} {vs:List V},au K H (ns.map PyData.int) vs->vs=ns.map V.int
 | [],_,h=>by rw[List.map_nil] at h;unfold au at h;exact h
 | n::ns,_,h=>by
  rw[Ub] at h
  unfold au at h
  obtain⟨v,r,rfl,h1,h2⟩:=h
  unfold Den at h1
  rw[h1,pP h2];rfl
theorem AX {K:Ja}{H:Hp}{ns:List Int}{v:V}(h:Den K H (.list (ns.map PyData.int)) v):∃p,v = .ref p/\aM K H p (ns.map V.int):=by
 unfold Den at h
 obtain⟨p,vs,rfl,h1,h2⟩:=h
 rw[pP h2] at h1
 exact⟨p,rfl,h1⟩
theorem sH.same {H H':Hp}{b c:Addr}{t:Int}{ns:List Int}(x:sH H b c t ns)(s:ak H H'):sH H' b c t ns:=⟨s _ _ x.d,s _ _ x.l,x.ne,x.le⟩
section
variable {P:Program}{w:World}{K:Ja}{mg:Str->Option Value}{base:Heap}{f:Addr}{fd:FuncData}
theorem cF:aR ["_law_state", "_law_many", "_law_turn", "_law_place", "_law_cell", "_law_digit", "_law_prime", "_law_mixed_here"] ["_law_state", "_law_many"] (av (top jW)):=⟨rfl,rfl,rfl,by decide +kernel,rfl,by decide +kernel,by decide +kernel⟩
theorem E2 (F:cR K "_law_take" "_law_take" (top jW) f fd)(T:Nm mg):bC P w K mg base gG 1 f fd ["_law_state", "_law_many"] vX:=by
 refine F.ok cF (fun vs H Q E h =>?_) (fun dI A outer s H vs Q E hr h =>?_)
 ·obtain⟨b,c,t,ns,many,rfl,_⟩:=h
  rfl
 obtain⟨b,c,t,ns,many,rfl,bx,t0,t1,m0,m1,q⟩:=h
 have hu:=ur hr
 refine⟨_,(af (aL (i:=2) cF.nd rfl (Or.inl rfl) (aQ cp (cN hu (pv 0) aD (fun _ _=>rfl)) ah))
  (af (kq hu (pv 0) aD (pv 2) rfl)
  (af (aL (i:=3) cF.nd rfl (Or.inl rfl) (aQ jK (pv 2) (ai (dQ K) rfl T.n_len (by rfl) (aa (cN hu (pv 0) aD (fun _ _=>rfl)) ae))))
  (af (aL (i:=4) cF.nd rfl (Or.inl rfl) (aV (eB K) (cN hu (pv 0) aD (fun _ _=>rfl)) (pv 3) (fun _ _=>rfl)))
  (af (aX (aK Kr (pv 4) (aQ Bo ah ah) (aH _)) (af (fP (ai Du rfl T.n_divmod (by rfl) (aa (pv 4) (aa (pv 1) ae))) (tupK K 2 rfl (bb (gI (cN hu (pv 0) aD (fun _ _=>rfl)) (pv 3) set_list) (bb (aU (i:=5) cF.nd rfl (Or.inl rfl)) dB))))
  (ag (aB (pv 5)))) aN)
  (af (aL (i:=6) cF.nd rfl (Or.inl rfl) (aV (eB K) (eU (K:=K) (ar lit_int (ar lit_int (ar lit_int (ar lit_int (ar lit_int (ar lit_int (ar lit_int bU)))))))) (aQ jK (pv 2) ah) (fun _ _=>rfl)))
  (af (aL (i:=7) cF.nd rfl (Or.inl rfl) (aQ jK (aQ wM (aQ cp (aQ cp (aQ jK (pv 4) (pv 6)) (aQ wM (aQ wM (pv 2) (pv 2)) ah)) ah) ah) ah))
  (af (aL (i:=7) cF.nd rfl (Or.inl rfl) (aQ jK (aQ wM (pv 7) (pv 7)) (pv 6)))
  (ag (aB (aQ jK (aQ Dh (aQ jK (aQ wM (aQ cp (pv 7) (aQ wM (pv 2) ah)) ah) ah) ah) (pv 1)))))))))))),?_⟩
 refine⟨_,rfl,b,_,rfl,bx.AJ,.inl ⟨_,_,rfl,rfl,?_⟩⟩
 refine⟨_,rfl,_,rfl,b,_,rfl,bx.AW (t+1),?_⟩
 have wR:=bx.turned (t+1)
 refine⟨_,rfl,_,rfl,b,_,rfl,wR.kW,_,_,rfl,.inl ⟨_,aM.of wR.l,rfl⟩,_,_,rfl,rfl,?_,?_⟩
 ·rw[Je];have:=wR.ne;omega
 have hlen:(ns.map V.int).length=ns.length:=Je _
 have Fm:0<=(t+1)%((ns.map V.int).length:Int):=Int.emod_nonneg _ (by have:=wR.ne;omega)
 have Bk:(t+1)%((ns.map V.int).length:Int)<ns.length:=by rw[hlen];exact Int.emod_lt_of_pos _ (by have:=wR.ne;omega)
 refine aj.el (at_of Fm Bk) _ ?_
 rintro v hv L9
 refine⟨_,rfl,b,_,rfl,wR.kW,_,rfl,.inl ⟨c,_,_,_,rfl,rfl,aM.of wR.l,hv,?_⟩⟩
 refine⟨_,rfl,_,_,rfl,rfl,⟨by decide,by decide,by decide⟩,_,_,rfl,rfl,_,rfl,?_⟩
 refine cL (fun _ =>?_) (fun _ =>?_)
 ·refine⟨_,rfl,_,rfl,v,many,rfl,⟨m0,by omega⟩,fun pt H2 n2 =>?_⟩
  obtain⟨hpb,hpc⟩:pt≠b/\pt≠c:=⟨fun z=>(by have:=n2.nn;rw[z,wR.d] at this;cases this),fun z=>(by have:=n2.nn;rw[z,wR.l] at this;cases this)⟩
  have JG:=wR.same n2.same
  refine⟨pt,_,rfl,cE.of n2.at,rfl,_,_,rfl,?_⟩
  refine⟨_,rfl,b,_,rfl,JG.kW,_,rfl,c,_,_,_,rfl,rfl,JG.l,nM Fm (by simpa only [hlen] using Bk),?_⟩
  refine⟨_,_,rfl,rfl,_,rfl,?_⟩
  refine q (v%many) _ (ns.set ((t+1)%((ns.map V.int).length:Int)).toNat (v / many)) (Int.emod_nonneg _ (by omega)) (Int.emod_lt_of_pos _ m0) ⟨?_,?_,?_,?_⟩ ?_
  ·rw[ao JG.bc];exact JG.d
  ·rw[aq,List.map_set]
  ·rw[U8];exact wR.ne
  ·rw[U8];exact wR.le
  ·rw[yU]
   refine nW fun a o h1 h2 e =>?_
   rw[n2.ne (fun z =>?_),ao h1]
   ·exact e
   ·have z2:=n2.nn
    rw[ao hpb,<-z,e] at z2
    cases z2
 ·intro v1 H2 iC d2
  obtain⟨L,hL,gf,d2⟩:∃L:List Int,L.length=7/\(∀x∈L,0<x/\x<2147483648)/\Den K H2 (.list (L.map PyData.int)) v1:=by
   refine⟨[_,_,_,_,_,_,_],?_,?_,d2.same tw⟩
   ·rfl
   ·decide
  obtain⟨pp,rfl,hS⟩:=AX d2
  have Tn:0<=(t+1)%7:=Int.emod_nonneg _ (by decide)
  have VH:(t+1)%7<7:=Int.emod_lt_of_pos _ (by decide)
  have JG:=wR.same iC
  refine⟨_,rfl,_,_,rfl,rfl,(by dsimp only;decide),?_⟩
  refine aj.el (at_of Tn (show(t+1)%7<(L.length:Int) by rw[hL];exact VH)) _ ?_
  rintro pr E8 hpr'
  have OP:=gf pr (Ju hpr')
  refine .inl ⟨pp,_,_,_,rfl,rfl,hS,E8,?_⟩
  obtain⟨pr0,pr1⟩:=OP
  refine⟨_,rfl,_,rfl,_,_,rfl,rfl,pr0,_,rfl,_,rfl,.inl ⟨_,_,rfl,rfl,.inl ⟨by omega,by omega⟩,.inl ⟨_,_,rfl,rfl,.inr ⟨by decide,by decide⟩,.inl ⟨_,_,rfl,rfl,.inl ⟨_,_,rfl,rfl,.inl ⟨_,_,rfl,rfl,.inr ⟨by decide,by decide⟩,_,_,rfl,rfl,(by dsimp only;decide),?_⟩⟩⟩⟩⟩⟩
  have cm:∀(x y p:Int),0<p->p<2^64->wD (x%p) y:=fun x y p h0 h1=>Gn h0 h1
  refine⟨_,rfl,_,rfl,.inl ⟨_,_,rfl,rfl,cm _ _ _ (by decide) (by decide),?_⟩⟩
  refine⟨_,rfl,_,_,rfl,rfl,pr0,?_⟩
  refine⟨_,rfl,_,rfl,.inl ⟨_,_,rfl,rfl,.inl ⟨by omega,by omega⟩,.inl ⟨_,_,rfl,rfl,.inl ⟨_,_,rfl,rfl,.inr ⟨by decide,by decide⟩,_,_,rfl,rfl,(by dsimp only;decide),_,_,rfl,rfl,⟨by decide,by decide⟩,_,rfl,_,_,rfl,rfl,m0,?_⟩⟩⟩⟩
  refine q _ _ ns (Int.emod_nonneg _ (by omega)) (Int.emod_lt_of_pos _ m0) JG ?_
  have:=ak.dN (b:=b) (c:=c) iC
  rw[zZ] at this
  exact this
end
noncomputable def fk (x:Str):Bool:=x.cps.all (· < 128)
mutual
noncomputable def Pz:PyData->Bool
 | .none | .bool _=>true
 | .int i=>decide (i.natAbs<10^40)
 | .str x=>fk x
 | .list ds | .tuple ds=>Bz ds
 | .dict _=>false
noncomputable def Bz:List PyData->Bool
 | []=>true
 | d::ds=>Pz d&&Bz ds
end
theorem yG (ts:List Str):(listText ts).length<=piled ts+2:=by
 unfold listText
 rw[strLen_append]
 have e:(((("]" : String):Str))).length=1:=rfl
 rw[e]
 cases ts with
 | nil=>exact Jd _
 | cons t ts=>
  have q:=textFrom_length_pos ts 1 ((("[" : String):Str)++((if 0>0 then ", " else "" : String):Str)++t) (by decide)
  show(textFrom 1 _ ts).length+1<=_
  rw[q,strLen_append,strLen_append,piled_cons]
  have e1:(((("[" : String):Str))).length=1:=rfl
  have e2:((((if 0>0 then ", " else "" : String):Str))).length=0:=rfl
  rw[e1,e2]
  omega
theorem zu (ts:List Str):(tupleText ts).length<=piled ts+3:=by
 unfold tupleText
 rw[strLen_append,strLen_append]
 have e1:((("(" : String):Str)).length=1:=rfl
 have e3:(((if ts.length==1 then ",)" else ")" : String):Str)).length<=2:=by split<;>decide
 have e2:(Str.join ", " ts).length<=piled ts:=by
  cases ts with
  | nil=>exact Jd _
  | cons t ts=>have:=join_length_add (t::ts) (by simp);omega
 rw[e1]
 omega
theorem Ep {i:Int}(h:i.natAbs<10^40):(Str.ofString (toString i)).length<=41:=by
 cases i with
 | ofNat n=>
  have:=PyProof.Rows.toString_length_le (v:=Int.ofNat n) (by simp) (k:=40) (by decide) (by
   have h:n<10^40:=h
   show((n:Nat):Int)<10^40
   exact_mod_cast h)
  omega
 | negSucc n=>
  have h:n+1<10^40:=h
  have:=PyProof.Rows.toString_length_le (v:=Int.ofNat (n+1)) (by show(0:Int)<=((n+1:Nat):Int);omega) (k:=40) (by decide) (by
   show((n+1:Nat):Int)<10^40
   exact_mod_cast h)
  have e:toString (Int.negSucc n) = "-" ++ toString (Int.ofNat (n+1)):=rfl
  rw[e]
  have e2:∀a b:String,(Str.ofString (a++b)).length=(Str.ofString a).length+(Str.ofString b).length:=fun a b=>by
   simp[PyProof.Rows.ofString_length]
  rw[e2]
  have e3:(Str.ofString "-").length=1:=rfl
  omega
mutual
theorem kL:∀(d:PyData),Pz d=true->d.shown.length<=44*d.weight+42/\d.showable=true/\d.canLay0=true
 | .none,_=>⟨by decide +kernel,rfl,rfl⟩
 | .bool b,_=>⟨by cases b<;>decide +kernel,rfl,rfl⟩
 | .int i,h=>by
  have h:i.natAbs<10^40:=by simpa [Pz] using h
  refine⟨?_,?_,rfl⟩
  ·have:=Ep h
   simp only[PyData.shown]
   show(Str.ofString (toString i)).length<=_
   omega
  ·simp only[PyData.showable,decide_eq_true_eq]
   by_cases z:i.natAbs=0
   ·rw[z];decide
   ·exact(Nat.log2_lt z).mpr (Jn h (by decide))
 | .str x,h=>by
  have hx:∀c∈x.cps.toList,c<128:=fun c hc=>by
   have h:fk x=true:=by simpa only [Pz] using h
   unfold fk at h
   rw[Ys] at h
   have:=h c (by simpa using hc)
   simpa using this
  refine⟨?_,rfl,?_⟩
  ·have:=StrLaws.reprText_len x fun c hc=>Jn (hx c hc) (by decide)
   simp only[PyData.shown,PyData.weight]
   have e:x.cps.size=x.length:=rfl
   omega
  ·exact(Sh.str (n:=0) (dW fun ch hc=>by have:=hx ch hc;omega)).1
 | .list ds,h=>by
  obtain⟨h1,h2,h3⟩:=lK ds (by simpa only [Pz] using h)
  refine⟨?_,by simpa only [PyData.showable] using h2,by simpa only [PyData.canLay0] using h3⟩
  have:=yG (PyData.shownAll ds)
  simp only[PyData.shown,PyData.weight]
  omega
 | .tuple ds,h=>by
  obtain⟨h1,h2,h3⟩:=lK ds (by simpa only [Pz] using h)
  refine⟨?_,by simpa only [PyData.showable] using h2,by simpa only [PyData.canLay0] using h3⟩
  have:=zu (PyData.shownAll ds)
  simp only[PyData.shown,PyData.weight]
  omega
 | .dict _,h=>by simp[Pz] at h
theorem lK:∀(ds:List PyData),Bz ds=true->piled (PyData.shownAll ds)<=44*PyData.weightAll ds/\PyData.showableAll ds=true/\PyData.canLayAll0 ds=true
 | [],_=>⟨Jd _,rfl,rfl⟩
 | d::ds,h=>by
  simp only[Bz,Jw] at h
  refine aj.el (kL d h.1) _ ?_
  rintro a1 a2 a3
  refine aj.el (lK ds h.2) _ ?_
  rintro b1 b2 b3
  refine⟨?_,by simp only[PyData.showableAll,a2,b2];rfl,by simp only[PyData.canLayAll0,a3,b3];rfl⟩
  simp only[PyData.shownAll,PyData.weightAll,piled_cons]
  omega
end
theorem mO {ds:List PyData}:Bz ds=true ↔ ∀d∈ds,Pz d=true:=by
 induction ds with
 | nil=>simp[Bz]
 | cons d ds ih=>simp[Bz,ih]
theorem rh {m:Nat}:∀{ds:List PyData},(∀e∈ds,e.depth<=m)->PyData.depthAll ds<=m
 | [],_=>by simp[PyData.depthAll]
 | d::ds,h=>by
  have:=rh (m:=m) (ds:=ds) fun e he=>h e (Jo _ he)
  have:=h d Js
  simp only[PyData.depthAll]
  omega
structure Gd (w dp:Nat)(d:PyData):Prop where
 pz:Pz d=true
 wt:d.weight<=w
 dp:d.depth<=dp
theorem Gd.mono {w dp w' LH:Nat}{d:PyData}(h:Gd w dp d)(hw:w<=w')(hd:dp<=LH):Gd w' LH d:=⟨h.pz,Jg h.wt hw,Jg h.dp hd⟩
theorem Gd.shaped {w dp:Nat}{d:PyData}(h:Gd w dp d)(hd:dp<=64):SeqAt.shaped d=true:=by
 unfold SeqAt.shaped
 rw[(kL d h.pz).2.2,decide_eq_true (Jg h.dp hd)];rfl
theorem uI (xs ys:List PyData):PyData.weightAll (xs++ys)=PyData.weightAll xs+PyData.weightAll ys:=by
 induction xs with
 | nil=>simp[PyData.weightAll]
 | cons x xs ih=>rw[List.cons_append];simp only[PyData.weightAll,ih];omega
theorem Cp {xs ys:List PyData}(h:xs.Sublist ys):PyData.weightAll xs<=PyData.weightAll ys:=by
 induction h with
 | slnil=>exact Jd _
 | cons a h ih=>simp only[PyData.weightAll];omega
 | cons_cons a h ih=>simp only[PyData.weightAll];omega
structure Gs (w dp:Nat)(ds:List PyData):Prop where
 pz:∀d∈ds,Pz d=true
 wt:PyData.weightAll ds<=w
 dp:∀d∈ds,d.depth<=dp
theorem Gs.list {w dp:Nat}{ds:List PyData}(h:Gs w dp ds):Gd w (dp+1) (.list ds):=⟨by simp only[Pz];exact mO.mpr h.pz,by simp only[PyData.weight];exact h.wt,by simp only[PyData.depth];have:=rh h.dp;omega⟩
theorem Gs.tuple {w dp:Nat}{ds:List PyData}(h:Gs w dp ds):Gd w (dp+1) (.tuple ds):=⟨by simp only[Pz];exact mO.mpr h.pz,by simp only[PyData.weight];exact h.wt,by simp only[PyData.depth];have:=rh h.dp;omega⟩
theorem Gs.mono {w dp w' LH:Nat}{ds:List PyData}(h:Gs w dp ds)(hw:w<=w')(hd:dp<=LH):Gs w' LH ds:=⟨h.pz,Jg h.wt hw,fun d m=>Jg (h.dp d m) hd⟩
theorem Gs.app {w dp w':Nat}{xs ys:List PyData}(h:Gs w dp xs)(g:Gs w' dp ys):Gs (w+w') dp (xs++ys):=
 ⟨fun d m=>(Us.mp m).elim (h.pz d) (g.pz d),by rw[uI];have:=h.wt;have:=g.wt;omega,fun d m=>(Us.mp m).elim (h.dp d) (g.dp d)⟩
theorem Gs.sub {w dp:Nat}{xs ys:List PyData}(h:Gs w dp ys)(s:xs.Sublist ys):Gs w dp xs:=⟨fun d m=>h.pz d (s.subset m),Jg (Cp s) h.wt,fun d m=>h.dp d (s.subset m)⟩
theorem Gs.one {w dp:Nat}{d:PyData}(h:Gd w dp d):Gs (w+1) dp [d]:=
 ⟨fun e m=>by rw[Uc.mp m];exact h.pz,by have:=h.wt;simp only[PyData.weightAll];omega,fun e m=>by rw[Uc.mp m];exact h.dp⟩
theorem Gs.cons {w dp w':Nat}{d:PyData}{ds:List PyData}(h:Gd w dp d)(g:Gs w' dp ds):Gs (w+1+w') dp (d::ds):=(Gs.one h).app g
theorem Gs.nil {dp:Nat}:Gs 0 dp []:=⟨(fun d m=>nomatch m),Jd _,(fun d m=>nomatch m)⟩
theorem Gs.at {w dp:Nat}{ds:List PyData}{d:PyData}(h:Gs w dp ds)(m:d∈ds):Gd w dp d:=⟨h.pz d m,eM h.wt m,h.dp d m⟩
theorem Gd.int {w dp:Nat}{i:Int}(h:i.natAbs<10^40)(hw:201<=w):Gd w dp (.int i):=⟨by simpa [Pz] using h,Jg (vI (Jn h (by decide))) hw,by simp[PyData.depth]⟩
theorem Gd.str {w dp:Nat}{x:Str}(h:fk x=true)(hw:x.length<=w):Gd w dp (.str x):=⟨by simpa only [Pz] using h,by simp only[PyData.weight];exact hw,by simp[PyData.depth]⟩
theorem Gd.small {w dp:Nat}{d:PyData}(h:d = .none∨∃b,d = .bool b)(hw:10<=w):Gd w dp d:=by
 rcases h with rfl|⟨b,rfl⟩
 ·exact⟨rfl,Jg (by decide) hw,by simp[PyData.depth]⟩
 ·exact⟨rfl,Jg (by cases b<;>decide) hw,by simp[PyData.depth]⟩
theorem Gs.set {w dp w':Nat}{ds:List PyData}{d:PyData}{k:Nat}(h:Gs w dp ds)(g:Gd w' dp d):Gs (w+w') dp (ds.set k d):=by
 induction ds generalizing k w with
 | nil=>exact Gs.nil.mono (Uw _) (Jd _)
 | cons e ds ih=>
  have hw:PyData.weight e+1+PyData.weightAll ds<=w:=by have:=h.wt;simpa only [PyData.weightAll] using this
  cases k with
  | zero=>
   refine⟨fun x m =>?_,?_,fun x m =>?_⟩
   ·rcases Jm.mp m with rfl|m
    ·exact g.pz
    ·exact h.pz x (Jo _ m)
   ·have:=g.wt
    simp only[List.set_cons_zero,PyData.weightAll];omega
   ·rcases Jm.mp m with rfl|m
    ·exact g.dp
    ·exact h.dp x (Jo _ m)
  | succ k=>
   have r:=ih (k:=k) (w:=PyData.weightAll ds) ⟨fun x m=>h.pz x (Jo _ m),Jd _,fun x m=>h.dp x (Jo _ m)⟩
   refine⟨fun x m =>?_,?_,fun x m =>?_⟩
   ·rcases Jm.mp m with rfl|m
    ·exact h.pz _ Js
    ·exact r.pz x m
   ·have:=r.wt
    simp only[List.set_cons_succ,PyData.weightAll];omega
   ·rcases Jm.mp m with rfl|m
    ·exact h.dp _ Js
    ·exact r.dp x m
structure bI (b c:Addr)(G G' H H':Hp):Prop where
 gg:ak G G'
 sub:ak G' (dN H' b c)
 new:∀a o,G' a=some o->G a=some o∨H a=none
theorem bI.refl {b c:Addr}{G H:Hp}(h:ak G (dN H b c)):bI b c G G H H:=⟨ak.refl _,h,fun _ _ e =>.inl e⟩
theorem bI.step {b c:Addr}{G G' H H' H2:Hp}{t t' N:Int}(g:bI b c G G' H H')(s:Step b c H' H2 t t' N):bI b c G G' H H2:=⟨g.gg,g.sub.trans s.sm,g.new⟩
theorem bI.bD {b c p:Addr}{G G' H H' H2:Hp}{o:HO}{t:Int}(g:bI b c G G' H H')(bx:Bx H' b c t)(n:gJ H' p o H2)(hp:H p=none):bI b c G (upd G' p o) H H2:=by
 obtain⟨pb,pc⟩:=bx.aW n.nn
 have sM:G' p=none:=by
  cases e:G' p with
  | none=>rfl
  | some u=>have:=(cA (g.sub _ _ e)).1;rw[n.nn] at this;cases this
 refine⟨fun a u e =>?_,fun a u e =>?_,fun a u e =>?_⟩
 ·have e':=g.gg a u e
  rw[ao (aF e' sM)];exact e'
 ·by_cases z:a=p
  ·subst z
   rw[aq] at e;cases e
   rw[bL pb pc];exact n.at
  ·rw[ao z] at e
   have:=cA (g.sub a u e)
   rw[bL this.2.1 this.2.2,n.ne z];exact this.1
 ·by_cases z:a=p
  ·subst z;exact .inr hp
  ·rw[ao z] at e
   exact g.new a u e
theorem bI.trans {b c:Addr}{G G1 G2 H H1 H2:Hp}(g:bI b c G G1 H H1)(h:bI b c G1 G2 H1 H2)(fr:∀a,H1 a=none->H a=none):bI b c G G2 H H2:=
 ⟨g.gg.trans h.gg,h.sub,fun a o e=>(h.new a o e).elim (fun e=>g.new a o e) fun e =>.inr (fr a e)⟩
theorem bI.lit {b c:Addr}{G G' H H' H2:Hp}{t:Int}(g:bI b c G G' H H')(bx:Bx H' b c t)(s:ak H' H2)(fr:∀a,H' a=none->H a=none):∃G2,bI b c G G2 H H2/\ak G' G2/\ak (newOf H' H2) G2:=by
 refine⟨fun a=>match H' a with|none=>H2 a|some _=>G' a,⟨fun a o e =>?_,fun a o e =>?_,fun a o e =>?_⟩,fun a o e =>?_,fun a o e =>?_⟩
 ·have e1:=g.gg a o e
  have e2:=(cA (g.sub a o e1)).1
  show(match H' a with|none=>H2 a|some _=>G' a)=some o
  rw[e2];exact e1
 ·have e:(match H' a with|none=>H2 a|some _=>G' a)=some o:=e
  cases z:H' a with
  | none=>
   rw[z] at e
   obtain⟨h1,h2⟩:=bx.aW z
   rw[bL h1 h2];exact e
  | some u=>
   rw[z] at e
   have q:=cA (g.sub a o e)
   rw[bL q.2.1 q.2.2]
   exact s _ _ q.1
 ·have e:(match H' a with|none=>H2 a|some _=>G' a)=some o:=e
  cases z:H' a with
  | none=>exact .inr (fr a z)
  | some u=>rw[z] at e;exact g.new a o e
 ·have e2:=(cA (g.sub a o e)).1
  show(match H' a with|none=>H2 a|some _=>G' a)=some o
  rw[e2];exact e
 ·obtain⟨h1,h2⟩:=gN e
  show(match H' a with|none=>H2 a|some _=>G' a)=some o
  rw[h1];exact h2
theorem bI.up {b c:Addr}{G G' H H':Hp}(g:bI b c G G' H H'):ak G' H':=g.sub.trans nJ
theorem iy {K:Ja}{H:Hp}{x:Str}:Den K H (.str x) (.str x):=by unfold Den;rfl
theorem ka {K:Ja}{H:Hp}{x:Int}:Den K H (.int x) (.int x):=by unfold Den;rfl
theorem dbl {K:Ja}{H:Hp}{x:Bool}:Den K H (.bool x) (.bl x):=by unfold Den;rfl
theorem KI {K:Ja}{H:Hp}:Den K H .none .non:=by unfold Den;rfl
theorem er {K:Ja}{H:Hp}:au K H [] []:=by unfold au;rfl
theorem aE {K:Ja}{H:Hp}{d:PyData}{v:V}{ds:List PyData}{vs:List V}(h:Den K H d v)(g:au K H ds vs):au K H (d::ds) (v::vs):=by unfold au;exact⟨_,_,rfl,h,g⟩
theorem jC {K:Ja}{G:Hp}{p:Addr}{ds:List PyData}{vs:List V}(h:G p=some (.tup vs))(g:au K G ds vs):Den K G (.tuple ds) (.ref p):=by unfold Den;exact⟨p,vs,rfl,cE.of h,g⟩
theorem l7 {K:Ja}{G:Hp}{p:Addr}{ds:List PyData}{vs:List V}(h:G p=some (.lst vs))(g:au K G ds vs):Den K G (.list ds) (.ref p):=by unfold Den;exact⟨p,vs,rfl,aM.of h,g⟩
theorem fR {G H:Hp}{p:Addr}{o:HO}(s:ak G H)(h:H p=none):ak G (upd G p o):=fun a u e=>by
 rw[ao (fun z =>?_)]
 ·exact e
 ·have:=s a u e
  rw[z,h] at this;cases this
theorem jo {x:Str}:fk x=true ↔ ∀c∈x.cps.toList,c<128:=by
 unfold fk
 rw[Ys]
 constructor
 ·intro h c hc
  have:=h c (by simpa using hc)
  simpa using this
 ·intro h c hc
  have:=h c (by simpa using hc)
  simpa using this
theorem zL {x:Str}{lo hi:Option Int}(h:fk x=true):fk (Txt.slice x lo hi)=true:=by
 rw[jo] at h ⊢
 intro c hc
 apply h
 unfold Txt.slice at hc
 split at hc
 ·exact hc
 ·obtain⟨i,_,e⟩:=List.mem_filterMap.mp hc
  exact Ju (by rw[Array.getElem?_toList];exact e)
theorem kQ {x y:Str}(h:fk x=true)(g:fk y=true):fk (x++y)=true:=by
 rw[jo] at h g ⊢
 intro c hc
 rw[bM] at hc
 rcases Us.mp hc with q|q
 ·exact h c q
 ·exact g c q
theorem Hn:∀c<128,PyProof.Rows.up1 c<128:=by decide +kernel
theorem G8 {x:Str}(h:fk x=true):fk ⟨x.cps.map PyProof.Rows.up1⟩=true:=by
 rw[jo] at h ⊢
 intro c hc
 simp only[Array.toList_map,Ur] at hc
 obtain⟨a,ha,rfl⟩:=hc
 exact Hn a (h a ha)
noncomputable def fZ:PyData->Nat
 | .list ds | .tuple ds=>ds.length
 | _=>0
def Cell (d:PyData):Prop:=(∃x,d = .str x/\fk x=true/\x.length<=30)∨∃i,d = .int i/\0<=i/\i<=1000
def rT (K:Ja):Sp:=fun vs H Q _=>∃(b c:Addr) (t:Int) (G:Hp) (v:V) (d:PyData),vs=[.ref b,v]/\Bx H b c t/\0<=t/\t<20000000/\ak G (dN H b c)/\Den K G d v/\Cell d /\
 ∀(d':PyData) (v':V) (G' H':Hp) (t':Int),Gd 300 1 d'->fZ d'<=2->Den K G' d' v'->bI b c G G' H H'->Step b c H H' t t' 1->Q v' H'
theorem Iw:∀n<1001,(fk (Str.ofString (toString (Int.ofNat n)))&&decide ((Str.ofString (toString (Int.ofNat n))).length<=41))=true:=by decide +kernel
theorem shown_int {i:Int}(h0:0<=i)(h:i<=1000):fk (Ad (.int i))=true/\(Ad (.int i)).length<=41:=by
 have:=Iw i.toNat (by omega)
 have e:Int.ofNat i.toNat=i:=by simp;omega
 rw[e,Jw] at this
 exact⟨this.1,of_decide_eq_true this.2⟩
section
variable {P:Program}{w:World}{K:Ja}{mg:Str->Option Value}{base:Heap}{f:Addr}{fd:FuncData}
theorem ib:aR ["_law_state", "_law_thing", "_law_odd", "_law_some"] ["_law_state", "_law_thing"] (av (top jd)):=⟨rfl,rfl,rfl,by decide +kernel,rfl,by decide +kernel,by decide +kernel⟩
theorem vz (F:cR K "_law_other" "_law_other" (top jd) f fd)(T:Nm mg)(aw:Fn P w K mg base 1 "_law_take" ["_law_state", "_law_many"] oX):bC P w K mg base gG 2 f fd ["_law_state", "_law_thing"] (rT K):=by
 refine F.ok ib (fun vs H Q E h =>?_) (fun dI A outer s H vs Q E hr h =>?_)
 ·obtain⟨b,c,t,G,v,d,rfl,_⟩:=h
  rfl
 obtain⟨b,c,t,G,v,d,rfl,bx,t0,t1,hG,hd,hcell,q⟩:=h
 have cY:=hr.units
 have Sv:=(hd.same hG).same nJ
 refine⟨_,(af (aX (br (ai (eV K) rfl T.n_isinstance (by rfl) (aa (pv 1) (aa (aY rfl T.n_str (by rfl) (v := .ty "str") rfl) ae)))) (af (aL (i:=2) ib.nd rfl (Or.inl rfl) (eY (aa aD (aa (aQ cp (pv 1) aD) (aa (bz (ue K) (pv 1) (bH ah) bZ) (aa cJ (aa ah (aa (fN (aa (pv 1) ae)) (aa (Ke K PySem.F.plainAttrs_str PySem.F.slot_str_upper PySem.F.type_str_upper Ie (pv 1)) (aa aD (aa aD (aa aD (aa (aQ cp aD (pv 1)) ae)))))))))))))
  (ag (aB (aV (eB K) (pv 2) (aO (aw.mono (by decide)) hr rfl (aa (pv 0) (aa ah ae))) (fun _ _=>rfl))))) aN)
  (af (aL (i:=3) ib.nd rfl (Or.inl rfl) (eY (aa (aQ cp (pv 1) ah) (aa (aQ qM (pv 1) ah) (aa (aQ qM (AI va ah) (pv 1)) (aa (cQ (jM K cY) (pv 1) ah (aH _)) (aa (ba (Ig K hr.gd cY) rfl T.n_str (by rfl) (aa (pv 1) ae)) (aa cJ (aa (fN (aa (pv 1) ae)) (aa (eY (aa (pv 1) ae)) (aa ah (aa (aQ Bo ah ah) ae))))))))))))
  (ag (aB (aV (eB K) (pv 3) (aO (aw.mono (by decide)) hr rfl (aa (pv 0) (aa ah ae))) (fun _ _=>rfl)))))),?_⟩
 refine⟨_,rfl,.inl ⟨_, "str",d,_,rfl,Sv,(iw K d).2.2.1,_,rfl,?_⟩⟩
 rcases hcell with ⟨x,rfl,ha,hx⟩|⟨i,rfl,i0,i1⟩
 ·have e:=hd
  unfold Den at e
  subst e
  refine bw ?_
  have sz:∀n:Nat,n<=100->n<=sizeLine:=fun n h=>Jg h (by decide)
  refine⟨_,rfl,.inr (.inl ⟨_,_,rfl,rfl,sz _ (by have:(Str.ofString "a").length=1:=rfl;omega),?_⟩)⟩
  refine⟨_,rfl,_,rfl,.inr ⟨x,rfl,sz _ (by omega),?_⟩⟩
  refine⟨_,rfl,by show 1<=sizeLine;decide,fun p1 H1 n1 =>?_⟩
  refine⟨_,rfl,rfl,x,rfl,rfl,jo.mp ha,by omega,?_⟩
  refine⟨_,rfl,.inr (.inl ⟨_,_,rfl,rfl,sz _ (by have:(Str.ofString "far").length=3:=rfl;omega),?_⟩)⟩
  refine⟨by show 11<=sizeLine;decide,fun p2 H2 n2=>gn ?_⟩
  have g1:=(bI.refl hG).bD bx n1 n1.nn
  have fY:=(Step.refl bx).bD n1
  obtain⟨G2,g2,le2⟩:∃G2,bI b c G G2 H H2/\ak (upd G p1 (.tup [.str x])) G2:=⟨_,g1.bD fY.bx n2 (fY.fresh bx n2.nn),fR g1.up n2.nn⟩
  have da:=fY.bD n2
  have dk:au K G2 [.str "",.str (x++Str.ofString "a"),.str (Txt.slice x (some 1) none),.none,.int 0,.tuple [.str x],.str ⟨x.cps.map PyProof.Rows.up1⟩,.str "farjump",.str "e",.str "Stop",.str (Str.ofString "far" ++ x)] _:=
   aE iy (aE iy (aE iy (aE KI (aE ka (aE ((jC (ds:=[.str x]) aq (aE iy er)).same le2) (aE iy (aE iy (aE iy (aE iy (aE iy er))))))))))
  refine⟨_,rfl,_,rfl,b,c,t,11,rfl,da.bx,t0,by omega,by decide,by decide,fun r H3 r0 r1 bJ =>?_⟩
  obtain⟨JD,hc2⟩:=fY.bx.aW n2.nn
  have h3:=bJ.old n2.at JD hc2
  obtain⟨y,hy,dy⟩:=dk.get (i:=r.toNat) (Jc (show r.toNat<11 by omega))
  have Kt:∀e∈([.str "",.str (x++Str.ofString "a"),.str (Txt.slice x (some 1) none),.none,.int 0,.tuple [.str x],.str ⟨x.cps.map PyProof.Rows.up1⟩,.str "farjump",.str "e",.str "Stop",.str (Str.ofString "far" ++ x)]:List PyData),fZ e<=2:=by
   simp only[Jm,J7,or_false,forall_eq_or_imp,forall_eq]
   refine⟨?_,?_,?_,?_,?_,?_,?_,?_,?_,?_,?_⟩<;>exact of_decide_eq_true rfl
  refine .inl ⟨p2,_,_,_,rfl,rfl,aM.of h3,cV r0 hy,?_⟩
  refine q _ _ _ _ _ ?_ (Kt _ (Jx _)) dy (g2.step bJ) ((da.trans bJ).more (by omega))
  have all:∀e∈([.str "",.str (x++Str.ofString "a"),.str (Txt.slice x (some 1) none),.none,.int 0,.tuple [.str x],.str ⟨x.cps.map PyProof.Rows.up1⟩,.str "farjump",.str "e",.str "Stop",.str (Str.ofString "far" ++ x)]:List PyData),Gd 300 1 e:=by
   simp only[Jm,J7,or_false,forall_eq_or_imp,forall_eq]
   have la:(Str.ofString "a").length=1:=rfl
   have lf:(Str.ofString "far").length=3:=rfl
   have ls:=Txt.slice_le x (some 1) none
   refine⟨Gd.str (by decide +kernel) (by decide +kernel),Gd.str (kQ ha (by decide +kernel)) ?_,Gd.str (zL ha) (by omega),Gd.small (.inl rfl) (by decide),Gd.int (by decide) (by decide),((Gs.one (w:=30) (dp:=0) (Gd.str ha hx)).tuple).mono (by decide) (by decide),Gd.str (G8 ha) ?_,Gd.str (by decide +kernel) (by decide +kernel),Gd.str (by decide +kernel) (by decide +kernel),Gd.str (by decide +kernel) (by decide +kernel),Gd.str (kQ (by decide +kernel) ha) ?_⟩
   ·rw[PySem.strLen_append,la];omega
   ·show(x.cps.map PyProof.Rows.up1).size<=300
    rw[Array.size_map]
    have:x.cps.size=x.length:=rfl
    omega
   ·rw[PySem.strLen_append,lf];omega
  exact all _ (Jx _)
 ·have e:=hd
  unfold Den at e
  subst e
  refine bh ?_
  dsimp only[eG]
  refine⟨_,rfl,.inl ⟨_,_,rfl,rfl,?_⟩⟩
  refine⟨_,rfl,_,_,rfl,rfl,?_⟩
  refine⟨_,rfl,_,rfl,_,_,rfl,rfl,?_⟩
  refine⟨_,rfl,.inl ⟨rfl,?_⟩⟩
  obtain⟨sa,sl⟩:=shown_int i0 i1
  have pz:Pz (.int i)=true:=(Gd.int (w:=201) (dp:=0) (by omega) (by decide)).pz
  refine⟨_,rfl,_,.int i,rfl,Sv,(kL _ pz).2.1,by simp[PyData.depth],?_,?_⟩
  ·exact Jg sl (by decide)
  refine⟨_,rfl,by show 1<=sizeLine;decide,fun p1 H1 n1 =>?_⟩
  refine⟨_,rfl,by show 1<=sizeLine;decide,fun p2 H2 n2 =>?_⟩
  refine⟨_,_,rfl,rfl,⟨by decide,by decide,by decide⟩,?_⟩
  refine⟨by show 10<=sizeLine;decide,fun p3 H3 n3=>gn ?_⟩
  have g1:=(bI.refl hG).bD bx n1 n1.nn
  have fY:=(Step.refl bx).bD n1
  have g2:=g1.bD fY.bx n2 (fY.fresh bx n2.nn)
  have da:=fY.bD n2
  obtain⟨G3,g3,le3⟩:∃G3,bI b c G G3 H H3/\ak (upd (upd G p1 (.tup [.int i])) p2 (.lst [.int i])) G3:=⟨_,g2.bD da.bx n3 (da.fresh bx n3.nn),fR g2.up n3.nn⟩
  have bJ:=da.bD n3
  have dk:au K G3 [.int (i+1),.int (i-1),.int (-1-i),.bool (decide (V.int i=V.int 1)),.str (Ad (.int i)),.none,.tuple [.int i],.list [.int i],.int 256,.int ((10:Int)^(20:Int).toNat)] _:=
   aE ka (aE ka (aE ka (aE dbl (aE iy (aE KI (aE (((jC (ds:=[.int i]) aq (aE ka er)).same (fR g1.up n2.nn)).same le3) (aE ((l7 (ds:=[.int i]) aq (aE ka er)).same le3) (aE ka (aE ka er)))))))))
  refine⟨_,rfl,_,rfl,b,c,t,10,rfl,bJ.bx,t0,by omega,by decide,by decide,fun r H4 r0 r1 cn =>?_⟩
  obtain⟨hb3,hc3⟩:=da.bx.aW n3.nn
  have h4:=cn.old n3.at hb3 hc3
  obtain⟨y,hy,dy⟩:=dk.get (i:=r.toNat) (Jc (show r.toNat<10 by omega))
  have Kt:∀e∈([.int (i+1),.int (i-1),.int (-1-i),.bool (decide (V.int i=V.int 1)),.str (Ad (.int i)),.none,.tuple [.int i],.list [.int i],.int 256,.int ((10:Int)^(20:Int).toNat)]:List PyData),fZ e<=2:=by
   simp only[Jm,J7,or_false,forall_eq_or_imp,forall_eq]
   refine⟨?_,?_,?_,?_,?_,?_,?_,?_,?_,?_⟩<;>exact of_decide_eq_true rfl
  refine .inl ⟨p3,_,_,_,rfl,rfl,aM.of h4,cV r0 hy,?_⟩
  refine q _ _ _ _ _ ?_ (Kt _ (Jx _)) dy (g3.step cn) ((bJ.trans cn).more (by omega))
  have all:∀e∈([.int (i+1),.int (i-1),.int (-1-i),.bool (decide (V.int i=V.int 1)),.str (Ad (.int i)),.none,.tuple [.int i],.list [.int i],.int 256,.int ((10:Int)^(20:Int).toNat)]:List PyData),Gd 300 1 e:=by
   simp only[Jm,J7,or_false,forall_eq_or_imp,forall_eq]
   have gi:Gd 201 0 (.int i):=Gd.int (by omega) (by decide)
   exact⟨Gd.int (by omega) (by decide),Gd.int (by omega) (by decide),Gd.int (by omega) (by decide),Gd.small (.inr ⟨_,rfl⟩) (by decide),Gd.str sa (by omega),Gd.small (.inl rfl) (by decide),((Gs.one gi).tuple).mono (by decide) (by decide),((Gs.one gi).list).mono (by decide) (by decide),Gd.int (by decide) (by decide),Gd.int (by decide) (by decide)⟩
  exact all _ (Jx _)
end
noncomputable def cutD (ds:List PyData)(lo hi:Option Int):List PyData:=(ds.drop (HT.oQ ds.length 0 lo)).take (HT.oQ ds.length ds.length hi-HT.oQ ds.length 0 lo)
theorem uy {K:Ja}{H:Hp}{ds:List PyData}{vs:List V}(h:au K H ds vs)(n:Nat):au K H (ds.drop n) (vs.drop n):=by
 have hl:=h.len
 refine au.of_get (by rw[Yr,Yr,hl]) fun j d' v' h1 h2 =>?_
 rw[List.getElem?_drop] at h1 h2
 exact ig h h1 h2
theorem gj {K:Ja}{H:Hp}{ds:List PyData}{vs:List V}(h:au K H ds vs)(lo hi:Option Int):au K H (cutD ds lo hi) (jT vs lo hi):=by
 unfold cutD jT
 rw[h.len]
 exact pQ (uy h _) _
theorem dz {K:Ja}{H:Hp}:∀{xs ys:List PyData} {us vs:List V},au K H xs us->au K H ys vs->au K H (xs++ys) (us++vs)
 | [],_,_,_,h,g=>by unfold au at h;subst h;exact g
 | d::ds,_,_,_,h,g=>by
  unfold au at h
  obtain⟨v,r,rfl,h1,h2⟩:=h
  exact aE h1 (dz h2 g)
theorem tO (ds:List PyData)(lo hi:Option Int):(cutD ds lo hi).Sublist ds:=(List.take_sublist _ _).trans (List.drop_sublist _ _)
theorem Gs.rev {w dp:Nat}{ds:List PyData}(h:Gs w dp ds):Gs w dp ds.reverse:=by
 refine⟨fun d m=>h.pz d (List.mem_reverse.mp m),?_,fun d m=>h.dp d (List.mem_reverse.mp m)⟩
 have:PyData.weightAll ds.reverse=PyData.weightAll ds:=by
  clear h
  induction ds with
  | nil=>rfl
  | cons d ds ih=>rw[List.reverse_cons,uI,ih];simp only[PyData.weightAll];omega
 rw[this];exact h.wt
theorem bI.put {b c p:Addr}{G Gx H H3 Hx Hy:Hp}{o:HO}(g:bI b c G Gx H3 Hx)(fr:∀a,H3 a=none->H a=none)(hp:H p=none)(h3:H3 p≠none)(sM:G p=none)(pb:p≠b)(pc:p≠c)(hx:Hy p=some o)(VI:∀a,a≠p->Hy a=Hx a):
  bI b c G (upd Gx p o) H Hy/\ak Gx (upd Gx p o):=by
 have Tr:Gx p=none:=by
  cases e:Gx p with
  | none=>rfl
  | some u=>
   rcases g.new p u e with z|z
   ·rw[sM] at z;cases z
   ·exact absurd z h3
 have le:ak Gx (upd Gx p o):=fun a u e=>by rw[ao (aF e Tr)];exact e
 refine⟨⟨g.gg.trans le,fun a u e =>?_,fun a u e =>?_⟩,le⟩
 ·by_cases z:a=p
  ·subst z
   rw[aq] at e;cases e
   rw[bL pb pc];exact hx
  ·rw[ao z] at e
   have:=cA (g.sub a u e)
   rw[bL this.2.1 this.2.2,VI a z];exact this.1
 ·by_cases z:a=p
  ·subst z;exact .inr hp
  ·rw[ao z] at e
   exact(g.new a u e).elim .inl fun z =>.inr (fr a z)
def il (K:Ja):Sp:=fun vs H Q _=>∃(b c:Addr) (t:Int) (G:Hp) (v:V) (d:PyData) (ds:List PyData) (dp:Nat),vs=[.ref b,v]/\Bx H b c t/\0<=t/\t<20000000/\ak G (dN H b c)/\Den K G d v/\(d = .list ds∨d = .tuple ds)/\Gs 21000 dp ds/\dp<=5 /\
 ∀(d':PyData) (v':V) (G' H':Hp) (t':Int),Gd 63300 (dp+2) d'->fZ d'<=3*ds.length+3->Den K G' d' v'->bI b c G G' H H'->Step b c H H' t t' 3->Q v' H'
theorem CT {K:Ja}{G:Hp}{d:PyData}{ds:List PyData}{v:V}(h:Den K G d v)(hd:d = .list ds∨d = .tuple ds):∃a us,v = .ref a/\au K G ds us/\((d = .list ds/\aM K G a us)∨(d = .tuple ds/\cE K G a us)):=by
 rcases hd with rfl|rfl
 ·unfold Den at h
  obtain⟨a,us,rfl,h1,h2⟩:=h
  exact⟨a,us,rfl,h2,.inl ⟨rfl,h1⟩⟩
 ·unfold Den at h
  obtain⟨a,us,rfl,h1,h2⟩:=h
  exact⟨a,us,rfl,h2,.inr ⟨rfl,h1⟩⟩
section
variable {P:Program}{w:World}{K:Ja}{mg:Str->Option Value}{base:Heap}{f:Addr}{fd:FuncData}
theorem bK:aR ["_law_state", "_law_row", "_law_way", "_law_at", "_law_turned"] ["_law_state", "_law_row"] (av (top fu)):=⟨rfl,rfl,rfl,by decide +kernel,rfl,by decide +kernel,by decide +kernel⟩
theorem Ah (F:cR K "_law_other_row" "_law_other_row" (top fu) f fd)(T:Nm mg)(aw:Fn P w K mg base 1 "_law_take" ["_law_state", "_law_many"] oX):bC P w K mg base gG 2 f fd ["_law_state", "_law_row"] (il K):=by
 refine F.ok bK (fun vs H Q E h =>?_) (fun dI A outer s H vs Q E hr h =>?_)
 ·obtain⟨b,c,t,G,v,d,ds,dp,rfl,_⟩:=h
  rfl
 obtain⟨b,c,t,G,v,d,ds,dp,rfl,bx,t0,t1,hG,hd,jA,hgs,hdp,q⟩:=h
 have cY:=hr.units
 obtain⟨a,us,rfl,dk,hseq⟩:=CT hd jA
 have MT:=dk.len
 have Rm:=eK ds
 have Lv:=hgs.wt
 refine⟨_,(af (Ip (i:=2) (j:=3) rfl bK.nd rfl rfl (by decide) rfl rfl (aa (aO (aw.mono (by decide)) hr rfl (aa (pv 0) (aa ah ae))) (aa (aO (aw.mono (by decide)) hr rfl (aa (pv 0) (aa (aQ cp (ai (dQ K) rfl T.n_len (by rfl) (aa (pv 1) ae)) ah) ae))) ae)) rfl)
  (af (aL (i:=4) bK.nd rfl (Or.inl rfl) (ba (mi K) rfl T.n_list (by rfl) (aa (pv 1) ae)))
  (af (aX (aK (jM K cY) (pv 2) ah (aH _)) (ag (aL (i:=4) bK.nd rfl (Or.inl rfl) (aQ cp (bz (ue K) (pv 4) bZ (bH (pv 3))) (bz (ue K) (pv 4) (bH (aQ cp (pv 3) ah)) bZ)))) (ag (aX (aK (jM K cY) (pv 2) ah (aH _)) (ag (aL (i:=4) bK.nd rfl (Or.inl rfl) (aQ cp (aQ cp (bz (ue K) (pv 4) bZ (bH (pv 3))) (bz (ue K) (pv 4) (bH (pv 3)) (bH (aQ cp (pv 3) ah)))) (bz (ue K) (pv 4) (bH (pv 3)) bZ)))) (ag (aX (aK (jM K cY) (pv 2) ah (aH _)) (ag (aL (i:=4) bK.nd rfl (Or.inl rfl) (aQ cp (aQ cp (bz (ue K) (pv 4) bZ (bH (pv 3))) (Gi K (bz (ue K) (pv 4) (bH (pv 3)) (bH (aQ cp (pv 3) ah))))) (bz (ue K) (pv 4) (bH (aQ cp (pv 3) ah)) bZ)))) (ag (aX (aK (jM K cY) (pv 2) ah (aH _)) (ag (kE (yN K PySem.F.plainAttrs_list PySem.F.slot_list_insert PySem.F.type_list_insert xY (pv 4) (aa (pv 3) (aa (aV (eB K) (eU (K:=K) (ar lit_int (ar lit_str (ar (kd (K:=K) bU) (ar (eU (K:=K) bU) (ar rJ (ar wU (ar (kd (K:=K) (ar lit_str bU)) (ar (kd (K:=K) (ar lit_str (ar lit_int bU))) bU))))))))) (aO (aw.mono (by decide)) hr rfl (aa (pv 0) (aa ah ae))) (fun _ _=>rfl)) ae))))) (ag (aX (aK (jM K cY) (pv 2) ah (aH _)) (ag (kE (Ke K PySem.F.plainAttrs_list PySem.F.slot_list_reverse PySem.F.type_list_reverse A8 (pv 4)))) (ag (aX (aK (jM K cY) (pv 2) ah (aH _)) (ag (aL (i:=4) bK.nd rfl (Or.inl rfl) (aV (eB K) (eY (aa (eU (K:=K) bU) (aa (aQ cp (pv 4) (pv 4)) ae))) (aO (aw.mono (by decide)) hr rfl (aa (pv 0) (aa ah ae))) (fun _ _=>rfl)))) (ag (aX (aK (jM K cY) (pv 2) ah (aH _)) (ag (aB (aV (eB K) (eU (K:=K) (ar rJ (ar wU (ar lit_int (ar lit_str (ar (kd (K:=K) bU) (ar (eU (K:=K) bU) bU))))))) (aO (aw.mono (by decide)) hr rfl (aa (pv 0) (aa ah ae))) (fun _ _=>rfl)))) (ag (aX (aK (jM K cY) (pv 2) ah (aH _)) (ag (aB (fV (br (ai (eV K) rfl T.n_isinstance (by rfl) (aa (pv 1) (aa (aY rfl T.n_tuple (by rfl) (v := .ty "tuple") rfl) ae)))) (ba (mi K) rfl T.n_list (by rfl) (aa (pv 1) ae)) (ba (gz K) rfl T.n_tuple (by rfl) (aa (pv 1) ae))))) (ag (aX (aK (zj K cY) (pv 4) (eU (K:=K) bU) (aH _)) (ag (kE (yN K PySem.F.plainAttrs_list PySem.F.slot_list_insert PySem.F.type_list_insert xY (pv 4) (aa (pv 3) (aa (aV (eB K) (pv 4) (aO (aw.mono (by decide)) hr rfl (aa (pv 0) (aa (ai (dQ K) rfl T.n_len (by rfl) (aa (pv 4) ae)) ae))) (fun _ _=>rfl)) ae))))) aN)))))))))))))))))
  (ag (aB (fV (br (ai (eV K) rfl T.n_isinstance (by rfl) (aa (pv 1) (aa (aY rfl T.n_tuple (by rfl) (v := .ty "tuple") rfl) ae)))) (ba (gz K) rfl T.n_tuple (by rfl) (aa (pv 4) ae)) (pv 4))))))),?_⟩
 have sq:∀H',ak G H'->aM K H' a us∨cE K H' a us:=fun H' sm=>by
  rcases hseq with ⟨_,z⟩|⟨_,z⟩
  ·exact .inl (sm.seq z)
  ·exact .inr (sm.fM z)
 have g0:=bI.refl hG
 refine⟨_,rfl,b,c,t,9,rfl,bx,t0,by omega,by decide,by decide,fun way H1 w0 w1 fY =>?_⟩
 have g1:=g0.step fY
 have hlen:∀H',ak G H'->ym K (.ref a) H' us.length:=fun H' sm=>by
  rcases sq H' sm with z|z
  ·exact .inl ⟨_,z,rfl⟩
  ·exact .inr ⟨_,z,rfl⟩
 refine⟨_,rfl,_,rfl,_,_,rfl,hlen H1 g1.up,.inl ⟨_,_,rfl,rfl,b,c,_,_,rfl,fY.bx,by omega,by omega,by omega,by omega,fun at' H2 a0 a1 da=>⟨_,_,rfl,?_⟩⟩⟩
 have g2:=g1.step da
 have da:=fY.trans da
 dsimp only
 refine⟨_,rfl,a,us,rfl,sq H2 g2.up,fun p H3 n3=>gn ?_⟩
 have hp:H p=none:=da.fresh bx n3.nn
 have sM:G p=none:=by
  cases e:G p with
  | none=>rfl
  | some u=>have:=(cA (hG p u e)).1;rw[hp] at this;cases this
 obtain⟨pb,pc⟩:=da.bx.aW n3.nn
 have bJ:=da.bD n3
 have g3:bI b c G G H3 H3:=bI.refl (hG.trans bJ.sm)
 have pC:∀a,H3 a=none->H a=none:=fun a z=>bJ.fresh bx z
 dsimp only
 refine dP (t:=zb _ _ _) (fun σ H'=>∃(p':Addr) (fI:List V) (uS:List PyData) (G':Hp) (t':Int),σ=[some (.ref b),some (.ref a),some (.int way),some (.int at'),some (.ref p')]/\aM K G' p' fI/\au K G' uS fI/\Gs 63300 (dp+1) uS/\uS.length<=3*ds.length+3/\bI b c G G' H H'/\Step b c H H' t t' 3) (fun Nx nx =>?_) ?_
 ·have Nf:=bJ.ub
  have Nk:=bJ.le
  have a1:at'<=us.length:=by omega
  have sz:∀n:Nat,n<=100000->n<=sizeLine:=fun n h=>Jg h (by decide)
  have Ph:us.length<=21000:=by omega
  have cl:∀lo hi,(jT us lo hi).length<=21000:=fun lo hi=>Jg (l6 _ _ _) Ph
  have HF:∀(H' OO:Hp) (p':Addr) (fI:List V) (uS:List PyData) (t':Int),Step b c H H' t t' 3->gJ H' p' (.lst fI) OO->au K G uS fI->Gs 63300 (dp+1) uS->uS.length<=3*ds.length+3->Nx [some (.ref b),some (.ref a),some (.int way),some (.int at'),some (.ref p')] OO:=fun H' OO p' fI uS t' st n qR hg' zN=>by
   have g:=g0.step st
   exact nx _ _ ⟨p',fI,uS,_,t',rfl,aM.of aq,qR.same (fR g.up n.nn),hg',zN,g.bD st.bx n (st.fresh bx n.nn),st.bD n⟩
  have uK:∀lo hi,Gs 21000 (dp+1) (cutD ds lo hi):=fun lo hi=>(hgs.sub (tO ds lo hi)).mono (Jd _) (U1 _)
  have uU:=n3.at
  have Ay:∀lo hi,(cutD ds lo hi).length<=ds.length:=fun lo hi=>(tO ds lo hi).length_le
  have l2:∀{xs ys:List PyData},xs.length<=ds.length->ys.length<=ds.length->(xs++ys).length<=3*ds.length+3:=fun h g=>by rw[Jq];omega
  have l3:∀{xs ys zs:List PyData},xs.length<=ds.length->ys.length<=ds.length->zs.length<=ds.length->(xs++ys++zs).length<=3*ds.length+3:=fun h g k=>by rw[Jq,Jq];omega
  refine⟨_,rfl,.inl ⟨rfl,_,rfl,cL (fun _ =>?_) (fun _ =>?_)⟩⟩
  ·refine⟨_,rfl,_,rfl,_,rfl,.inl ⟨p,us,rfl,aM.of uU,fun p4 H4 n4 =>?_⟩⟩
   refine⟨_,rfl,_,rfl,.inl ⟨_,_,rfl,rfl,_,rfl,.inl ⟨p,us,rfl,aM.of (n4.same _ _ uU),fun p5 H5 n5 =>?_⟩⟩⟩
   refine .inr (.inr ⟨p4,p5,_,_,rfl,rfl,n5.same _ _ n4.at,n5.at,sz _ (by have:=cl none (some at');have:=cl (some (at'+1)) none;omega),fun p6 H6 n6=>gn ?_⟩)
   exact HF _ _ _ _ _ _ (((bJ.bD n4).bD n5).more (by omega)) n6 (dz (gj dk _ _) (gj dk _ _)) (((uK _ _).app (uK _ _)).mono (by omega) (Jd _)) (l2 (Ay _ _) (Ay _ _))
  refine⟨_,rfl,.inl ⟨rfl,_,rfl,cL (fun _ =>?_) (fun _ =>?_)⟩⟩
  ·refine⟨_,rfl,_,rfl,_,rfl,.inl ⟨p,us,rfl,aM.of uU,fun p4 H4 n4 =>?_⟩⟩
   have h4:=n4.same _ _ uU
   refine⟨_,rfl,_,rfl,_,rfl,_,rfl,.inl ⟨_,_,rfl,rfl,_,rfl,.inl ⟨p,us,rfl,aM.of h4,fun p5 H5 n5 =>?_⟩⟩⟩
   have h5:=n5.same _ _ h4
   refine .inr (.inr ⟨p4,p5,_,_,rfl,rfl,n5.same _ _ n4.at,n5.at,sz _ (by have:=cl none (some at');have:=cl (some at') (some (at'+1));omega),fun p6 H6 n6 =>?_⟩)
   have h6:=n6.same _ _ h5
   refine⟨_,rfl,_,rfl,_,rfl,.inl ⟨p,us,rfl,aM.of h6,fun p7 H7 n7 =>?_⟩⟩
   refine .inr (.inr ⟨p6,p7,_,_,rfl,rfl,n7.same _ _ n6.at,n7.at,sz _ (by rw[Jq];have:=cl none (some at');have:=cl (some at') (some (at'+1));have:=cl (some at') none;omega),fun p8 H8 n8=>gn ?_⟩)
   exact HF _ _ _ _ _ _ (((((bJ.bD n4).bD n5).bD n6).bD n7).more (by omega)) n8 (dz (dz (gj dk _ _) (gj dk _ _)) (gj dk _ _)) ((((uK _ _).app (uK _ _)).app (uK _ _)).mono (by omega) (Jd _)) (l3 (Ay _ _) (Ay _ _) (Ay _ _))
  refine⟨_,rfl,.inl ⟨rfl,_,rfl,cL (fun _ =>?_) (fun _ =>?_)⟩⟩
  ·refine⟨_,rfl,_,rfl,_,rfl,.inl ⟨p,us,rfl,aM.of uU,fun p4 H4 n4 =>?_⟩⟩
   have h4:=n4.same _ _ uU
   refine⟨_,rfl,_,rfl,_,rfl,_,rfl,.inl ⟨_,_,rfl,rfl,_,rfl,.inl ⟨p,us,rfl,aM.of h4,fun p5 H5 n5 =>?_⟩⟩⟩
   have h5:=n5.same _ _ h4
   refine⟨p5,_,rfl,aM.of n5.at,fun p5r H5r n5r =>?_⟩
   have SQ:=n5r.same _ _ h5
   refine .inr (.inr ⟨p4,p5r,_,_,rfl,rfl,n5r.same _ _ (n5.same _ _ n4.at),n5r.at,sz _ (by rw[U7];have:=cl none (some at');have:=cl (some at') (some (at'+2));omega),fun p6 H6 n6 =>?_⟩)
   have h6:=n6.same _ _ SQ
   refine⟨_,rfl,_,rfl,.inl ⟨_,_,rfl,rfl,_,rfl,.inl ⟨p,us,rfl,aM.of h6,fun p7 H7 n7 =>?_⟩⟩⟩
   refine .inr (.inr ⟨p6,p7,_,_,rfl,rfl,n7.same _ _ n6.at,n7.at,sz _ (by rw[Jq,U7];have:=cl none (some at');have:=cl (some at') (some (at'+2));have:=cl (some (at'+2)) none;omega),fun p8 H8 n8=>gn ?_⟩)
   exact HF _ _ _ _ _ _ ((((((bJ.bD n4).bD n5).bD n5r).bD n6).bD n7).more (by omega)) n8 (dz (dz (gj dk _ _) (xg (gj dk _ _))) (gj dk _ _)) ((((uK _ _).app (uK _ _).rev).app (uK _ _)).mono (by omega) (Jd _)) (l3 (Ay _ _) (by rw[U7];exact Ay _ _) (Ay _ _))
  have ins:∀(Gx Hx Hy:Hp) (y:V) (e:PyData) (t':Int),bI b c G Gx H3 Hx->Step b c H Hx t t' 3->oZ Hx p (.lst (us.take at'.toNat++y::us.drop at'.toNat)) Hy->Den K Gx e y->Gd 21000 (dp+1) e->Nx [some (.ref b),some (.ref a),some (.int way),some (.int at'),some (.ref p)] Hy:=fun Gx Hx Hy y e t' g st ch de ge=>by
   obtain⟨g',le⟩:=g.put pC hp (by rw[uU];exact fun z=>nomatch z) sM pb pc ch.at (fun a z=>ch.ne z)
   have qR:au K Gx (ds.take at'.toNat++e::ds.drop at'.toNat) (us.take at'.toNat++y::us.drop at'.toNat):=dz (pQ (dk.same g.gg) _) (aE de (uy (dk.same g.gg) _))
   refine nx _ _ ⟨p,_,_,_,t',rfl,aM.of aq,qR.same le,?_,by rw[Jq,J0,Um,Yr];omega,g',st.my ch hp pb pc⟩
   exact(((hgs.sub (List.take_sublist _ _)).mono (Jd _) (U1 _)).app (Gs.cons ge ((hgs.sub (List.drop_sublist _ _)).mono (Jd _) (U1 _)))).mono (by omega) (Jd _)
  refine⟨_,rfl,.inl ⟨rfl,_,rfl,cL (fun _ =>?_) (fun _ =>?_)⟩⟩
  ·refine⟨_,rfl,.inl ⟨rfl,_,aM.of uU⟩,_,rfl,fun v4 H4 iQ d4 =>?_⟩
   obtain⟨G4,g4,_,s4⟩:=g3.lit bJ.bx iQ (fun _ z=>z)
   have cn:=bJ.trans (Step.same bJ.bx iQ)
   obtain⟨q4,ws,rfl,hS4,hd4⟩:fE fun a vs=>v4 = .ref a/\aM K G4 a vs/\au K G4 [.int 0,.str "a",.tuple [],.list [],.none,.bool true,.tuple [.str "stop"],.tuple [.str "jump",.int 0]] vs:=by
    have:=d4.same s4
    unfold Den at this
    exact this
   refine⟨_,rfl,b,c,_,8,rfl,cn.bx,by omega,by omega,by decide,by decide,fun r H5 r0 r1 bX =>?_⟩
   have g5:=g4.step bX
   obtain⟨y,hy,dy⟩:=hd4.get (i:=r.toNat) (Jc (show r.toNat<8 by omega))
   refine .inl ⟨q4,_,_,_,rfl,rfl,g5.up.seq hS4,cV r0 hy,?_⟩
   refine⟨p,us,_,y,rfl,rfl,bX.old (iQ _ _ uU) pb pc,a0,a1,J3 Ph (by decide),fun H6 c6 =>?_⟩
   refine ins _ _ _ _ _ _ g5 ((cn.trans bX).more (by omega)) c6 dy ?_
   have all:∀e∈([.int 0,.str "a",.tuple [],.list [],.none,.bool true,.tuple [.str "stop"],.tuple [.str "jump",.int 0]]:List PyData),Gd 500 1 e:=by
    simp only[Jm,J7,or_false,forall_eq_or_imp,forall_eq]
    refine⟨?_,?_,?_,?_,?_,?_,?_,?_⟩<;>exact⟨by decide +kernel,by decide +kernel,by decide +kernel⟩
   exact(all _ (Jx _)).mono (by decide) (by omega)
  refine⟨_,rfl,.inl ⟨rfl,_,rfl,cL (fun _ =>?_) (fun _ =>?_)⟩⟩
  ·refine⟨_,rfl,.inl ⟨rfl,_,aM.of uU⟩,p,us,rfl,rfl,uU,fun H4 c4 =>?_⟩
   obtain⟨g',le⟩:=g3.put pC hp (by rw[uU];exact fun z=>nomatch z) sM pb pc c4.at (fun a z=>c4.ne z)
   exact nx _ _ ⟨p,_,_,_,_,rfl,aM.of aq,(xg dk).same le,(hgs.rev).mono (by omega) (U1 _),by rw[U7];omega,g',(bJ.my c4 hp pb pc).more (by omega)⟩
  refine⟨_,rfl,.inl ⟨rfl,_,rfl,cL (fun _ =>?_) (fun _ =>?_)⟩⟩
  ·intro v4 H4 iQ d4
   have gH:bI b c G G H H3:=g0.step bJ
   obtain⟨G4,g4,le4,s4⟩:=gH.lit bJ.bx iQ pC
   have cn:=bJ.trans (Step.same bJ.bx iQ)
   obtain⟨q4,ws,rfl,hS4,hd4⟩:fE fun a vs=>v4 = .ref a/\aM K G4 a vs/\au K G4 [] vs:=by
    have:=d4.same s4
    unfold Den at this
    exact this
   have h4:=iQ _ _ uU
   refine⟨_,rfl,_,rfl,.inr (.inr ⟨p,p,us,us,rfl,rfl,h4,h4,sz _ (by omega),fun p5 H5 n5 =>?_⟩)⟩
   have bX:=cn.bD n5
   have g5:=g4.bD cn.bx n5 (cn.fresh bx n5.nn)
   refine⟨by show 2<=sizeLine;decide,fun p6 H6 n6 =>?_⟩
   have fh:=bX.bD n6
   obtain⟨pb6,pc6⟩:=bX.bx.aW n6.nn
   refine⟨_,rfl,b,c,_,2,rfl,fh.bx,by omega,by omega,by decide,by decide,fun r H7 r0 r1 iD =>?_⟩
   have h7:=iD.old n6.at pb6 pc6
   have g7:=(g5.step (Step.same bX.bx n6.same)).step iD
   have Mo:=(fh.trans iD)
   have P1:r=0∨r=1:=by omega
   rcases P1 with rfl|rfl
   ·refine .inl ⟨p6,_,_,_,rfl,rfl,aM.of h7,rfl,gn (nx _ _ ⟨q4,ws,[],_,_,rfl,(fR g4.up n5.nn).seq hS4,hd4.same (fR g4.up n5.nn),Gs.nil.mono (Uw _) (Jd _),Uw _,g7,Mo.more (by omega)⟩)⟩
   ·refine .inl ⟨p6,_,_,_,rfl,rfl,aM.of h7,rfl,gn (nx _ _ ⟨p5,us++us,ds++ds,_,_,rfl,aM.of aq,((dz dk dk).same g4.gg).same (fR g4.up n5.nn),((hgs.app hgs).mono (by omega) (U1 _)),by rw[Jq];omega,g7,Mo.more (by omega)⟩)⟩
  refine⟨_,rfl,.inl ⟨rfl,_,rfl,cL (fun _ =>?_) (fun _ =>?_)⟩⟩
  ·intro v4 H4 iQ d4
   have gH:bI b c G G H H3:=g0.step bJ
   obtain⟨G4,g4,le4,s4⟩:=gH.lit bJ.bx iQ pC
   have cn:=bJ.trans (Step.same bJ.bx iQ)
   obtain⟨q4,ws,rfl,hS4,hd4⟩:fE fun a vs=>v4 = .ref a/\aM K G4 a vs/\au K G4 [.none,.bool true,.int 7,.str "a",.tuple [],.list []] vs:=by
    have:=d4.same s4
    unfold Den at this
    exact this
   refine⟨_,rfl,b,c,_,6,rfl,cn.bx,by omega,by omega,by decide,by decide,fun r H5 r0 r1 bX =>?_⟩
   have g5:=g4.step bX
   obtain⟨y,hy,dy⟩:=hd4.get (i:=r.toNat) (Jc (show r.toNat<6 by omega))
   have Kt:∀e∈([.none,.bool true,.int 7,.str "a",.tuple [],.list []]:List PyData),fZ e<=3:=by
    simp only[Jm,J7,or_false,forall_eq_or_imp,forall_eq]
    refine⟨?_,?_,?_,?_,?_,?_⟩<;>exact of_decide_eq_true rfl
   refine .inl ⟨q4,_,_,_,rfl,rfl,g5.up.seq hS4,cV r0 hy,q _ _ _ _ _ ?_ (Jg (Kt _ (Jx _)) (Nat.le_add_left _ _)) dy g5 ((cn.trans bX).more (by omega))⟩
   have all:∀e∈([.none,.bool true,.int 7,.str "a",.tuple [],.list []]:List PyData),Gd 500 1 e:=by
    simp only[Jm,J7,or_false,forall_eq_or_imp,forall_eq]
    refine⟨?_,?_,?_,?_,?_,?_⟩<;>exact⟨by decide +kernel,by decide +kernel,by decide +kernel⟩
   exact(all _ (Jx _)).mono (by decide) (by omega)
  refine⟨_,rfl,.inl ⟨rfl,_,rfl,cL (fun _ =>?_) (fun _ =>?_)⟩⟩
  ·have gH:bI b c G G H H3:=g0.step bJ
   refine⟨_,rfl,.inl ⟨_, "tuple",d,_,rfl,hd.same gH.up,(iw K d).2.2.2.2,_,rfl,?_⟩⟩
   have Mt:=hgs.mono (show 21000<=63300 by decide) (U1 dp)
   rcases hseq with ⟨rfl,hs⟩|⟨rfl,hs⟩
   ·refine bh ⟨_,rfl,a,us,rfl,.inl ⟨gH.up.seq hs,fun p4 H4 n4 =>?_⟩⟩
    exact q _ _ _ _ _ Mt.tuple (show ds.length<=3*ds.length+3 by omega) (jC aq (dk.same (fR gH.up n4.nn))) (gH.bD bJ.bx n4 (pC _ n4.nn)) ((bJ.bD n4).more (by omega))
   ·refine bw ⟨_,rfl,a,us,rfl,.inr (gH.up.fM hs),fun p4 H4 n4 =>?_⟩
    exact q _ _ _ _ _ Mt.list (show ds.length<=3*ds.length+3 by omega) (l7 aq (dk.same (fR gH.up n4.nn))) (gH.bD bJ.bx n4 (pC _ n4.nn)) ((bJ.bD n4).more (by omega))
  refine⟨_,rfl,fun v4 H4 iQ d4 =>?_⟩
  have cn:=bJ.trans (Step.same bJ.bx iQ)
  have g4:=g3.step (Step.same bJ.bx iQ)
  have h4:=iQ _ _ uU
  have dl:Den K H4 (.list ds) (.ref p):=Den.list (aM.of h4) (dk.same g4.up)
  refine .inr ⟨_,_,dl,d4.same tw,(hgs.list).shaped (by omega),by decide +kernel,_,rfl,?_⟩
  rw[B4]
  cases hem:ds.isEmpty with
  | true=>
   refine bh (nx _ _ ⟨p,us,ds,upd G p (.lst us),_,rfl,aM.of aq,?_,hgs.mono (by decide) (U1 _),by omega,?_,cn.more (by omega)⟩)
   ·obtain⟨g',le⟩:=g4.put pC hp (by rw[uU];exact fun z=>nomatch z) sM pb pc h4 (fun a z=>rfl)
    exact dk.same le
   ·exact(g4.put pC hp (by rw[uU];exact fun z=>nomatch z) sM pb pc h4 (fun a z=>rfl)).1
  | false=>
   refine bw ?_
   have PU:1<=us.length:=by
    rw[MT]
    cases ds with
    | nil=>exact absurd hem (by decide)
    | cons _ _=>exact Y9 (Uw _)
   refine⟨_,rfl,.inl ⟨rfl,_,aM.of h4⟩,_,rfl,_,rfl,_,rfl,_,rfl,_,_,rfl,.inl ⟨_,aM.of h4,rfl⟩,b,c,_,_,rfl,cn.bx,by omega,by omega,by omega,by omega,fun r H5 r0 r1 bX =>?_⟩
   have g5:=g4.step bX
   have h5:=bX.old h4 pb pc
   obtain⟨y,hy,dy⟩:=dk.get (i:=r.toNat) (Jc (show r.toNat<ds.length by omega))
   refine .inl ⟨p,_,_,_,rfl,rfl,aM.of h5,cV r0 hy,?_⟩
   refine⟨p,us,_,y,rfl,rfl,h5,a0,a1,J3 Ph (by decide),fun H6 c6 =>?_⟩
   exact ins _ _ _ _ _ _ g5 ((cn.trans bX).more (by omega)) c6 dy ((hgs.at (Jx _)).mono (Jd _) (U1 _))
 ·rintro σ H4 ⟨p',fI,uS,G4,t4,rfl,hG4,hds4,hgs4,AR,g4,cn⟩
  refine⟨_,rfl,.inl ⟨_, "tuple",d,_,rfl,(hd.same g4.gg).same g4.up,(iw K d).2.2.2.2,_,rfl,?_⟩⟩
  rcases jA with rfl|rfl
  ·exact bh ⟨_,rfl,q _ _ _ _ _ hgs4.list AR (Den.list hG4 hds4) g4 cn⟩
  ·refine bw ⟨_,rfl,p',fI,rfl,.inl ⟨g4.up.seq hG4,fun p5 H5 n5 =>?_⟩⟩
   exact q _ _ _ _ _ hgs4.tuple AR (jC aq (hds4.same (fR g4.up n5.nn))) (g4.bD cn.bx n5 (cn.fresh bx n5.nn)) (cn.bD n5)
end
def Qk:Nat->PyData->Prop
 | 0,d=>Cell d
 | m+1,d=>∃ds,(d = .list ds∨d = .tuple ds)/\Gs 21000 m ds/\∀e∈ds,Qk m e
def kI (K:Ja)(n:Nat):Sp:=fun vs H Q _=>∃(b c:Addr) (t:Int) (x:Hp×V×PyData) (m:Nat),vs=[.ref b,x.2.1]/\m<n/\Qk m x.2.2/\m<=4/\Bx H b c t/\0<=t/\t<15000000-10*m/\ak x.1 (dN H b c)/\Den K x.1 x.2.2 x.2.1 /\
 ∀(d':PyData) (v':V) (G' H':Hp) (t':Int),Gd (63300+21001*m) (m+2) d'->fZ d'<=3*fZ x.2.2+3->Den K G' d' v'->bI b c x.1 G' H H'->Step b c H H' t t' (6*(m+1))->Q v' H'
theorem B6 {K:Ja}{d:PyData}(h:Cell d):PySem.W.kitAny K (.type (uT d)) ((["list", "tuple"]:List String).map Value.type)=some false:=by
 rcases h with ⟨x,rfl,_⟩|⟨i,rfl,_⟩<;>rfl
theorem ET {K:Ja}{d:PyData}{ds:List PyData}(h:d = .list ds∨d = .tuple ds):PySem.W.kitAny K (.type (uT d)) ((["list", "tuple"]:List String).map Value.type)=some true:=by
 rcases h with rfl|rfl<;>rfl
section
variable {P:Program}{w:World}{K:Ja}{mg:Str->Option Value}{base:Heap}{f:Addr}{fd:FuncData}
theorem eR:aR ["_law_state", "_law_thing", "_law_last", "_law_at", "_law_turned"] ["_law_state", "_law_thing"] (av (top ie)):=⟨rfl,rfl,rfl,by decide +kernel,rfl,by decide +kernel,by decide +kernel⟩
theorem zy {n:Nat}(F:cR K "_law_spoilt" "_law_spoilt" (top ie) f fd)(T:Nm mg)(aw:Fn P w K mg base 1 "_law_take" ["_law_state", "_law_many"] oX)(sr:Fn P w K mg base 2 "_law_other" ["_law_state", "_law_thing"] (rT K))(mB:Fn P w K mg base 2 "_law_other_row" ["_law_state", "_law_row"] (il K))(gX:Fn P w K mg base (n+2) "_law_spoilt" ["_law_state", "_law_thing"] (kI K n)):bC P w K mg base gG (n+2+1) f fd ["_law_state", "_law_thing"] (kI K (n+1)):=by
 refine F.ok eR (fun vs H Q E h =>?_) (fun dI A outer s H vs Q E hr h =>?_)
 ·obtain⟨b,c,t,x,m,rfl,_⟩:=h
  rfl
 obtain⟨b,c,t,⟨G,v,d⟩,m,rfl,hm,hlev,m4,bx,t0,t1,hG,hd,q⟩:=h
 have cY:=hr.units
 dsimp only at hG hd hlev q
 refine⟨_,(af (aX (bT (br (ai (Ck K) rfl T.n_isinstance (by rfl) (aa (pv 1) (aa (fN (aa (aY rfl T.n_list (by rfl) (v := .ty "list") rfl) (aa (aY rfl T.n_tuple (by rfl) (v := .ty "tuple") rfl) ae))) ae))))) (ag (aB (aO (sr.mono (by first|decide|exact Jd _|omega)) hr rfl (aa (pv 0) (aa (pv 1) ae))))) aN)
  (af (aX (PW.pt (gh (aK (jM K cY) (ai (dQ K) rfl T.n_len (by rfl) (aa (pv 1) ae)) ah (aH _)) (fq (aK (jM K cY) (aO (aw.mono (by first|decide|exact Jd _|omega)) hr rfl (aa (pv 0) (aa ah ae))) ah (aH _))))) (ag (aB (aO (mB.mono (by first|decide|exact Jd _|omega)) hr rfl (aa (pv 0) (aa (pv 1) ae))))) aN)
  (af (aL (i:=2) eR.nd rfl (Or.inl rfl) (cQ (jM K cY) (aO (aw.mono (by first|decide|exact Jd _|omega)) hr rfl (aa (pv 0) (aa ah ae))) ah (aH _)))
  (af (aL (i:=3) eR.nd rfl (Or.inl rfl) (fV (br (pv 2)) (aQ qM (ai (dQ K) rfl T.n_len (by rfl) (aa (pv 1) ae)) ah) (aO (aw.mono (by first|decide|exact Jd _|omega)) hr rfl (aa (pv 0) (aa (ai (dQ K) rfl T.n_len (by rfl) (aa (pv 1) ae)) ae)))))
  (af (aL (i:=4) eR.nd rfl (Or.inl rfl) (ba (mi K) rfl T.n_list (by rfl) (aa (pv 1) ae)))
  (af (fP (aO (gX.mono (by first|decide|exact Jd _|omega)) hr rfl (aa (pv 0) (aa (aV (eB K) (pv 4) (pv 3) (fun _ _=>rfl)) ae))) (gI (pv 4) (pv 3) set_list))
  (ag (aB (fV (br (ai (eV K) rfl T.n_isinstance (by rfl) (aa (pv 1) (aa (aY rfl T.n_tuple (by rfl) (v := .ty "tuple") rfl) ae)))) (ba (gz K) rfl T.n_tuple (by rfl) (aa (pv 4) ae)) (pv 4)))))))))),?_⟩
 have g0:=bI.refl hG
 refine⟨_,rfl,by show 2<=sizeLine;decide,fun p1 H1 n1 =>?_⟩
 have fY:=(Step.refl bx).bD n1
 have g1:=g0.step (Step.same bx n1.same)
 cases m with
 | zero=>
  refine⟨_,p1,["list", "tuple"],d,false,rfl,n1.at,hd.same g1.up,B6 hlev,_,rfl,bw ?_⟩
  refine⟨_,rfl,_,rfl,b,c,t,G,v,d,rfl,fY.bx,t0,by omega,g1.sub,hd,hlev,fun d' v' G' H' t' gd gl dd gg st =>?_⟩
  exact q d' v' G' H' t' (gd.mono (by decide) (by decide)) (by omega) dd (g1.trans gg (fun a z=>fY.fresh bx z)) ((fY.trans st).more (by omega))
 | succ m=>
  obtain⟨ds,jA,hgs,gf⟩:=hlev
  have OI:fZ d=ds.length:=by rcases jA with rfl|rfl<;>rfl
  obtain⟨a,us,rfl,dk,hseq⟩:=CT hd jA
  have MT:=dk.len
  have Rm:=eK ds
  have Lv:=hgs.wt
  refine⟨_,p1,["list", "tuple"],d,true,rfl,n1.at,hd.same g1.up,ET jA,_,rfl,bh ?_⟩
  have sq:∀H',ak G H'->aM K H' a us∨cE K H' a us:=fun H' sm=>by
   rcases hseq with ⟨_,z⟩|⟨_,z⟩
   ·exact .inl (sm.seq z)
   ·exact .inr (sm.fM z)
  have hlen:∀H',ak G H'->ym K (.ref a) H' us.length:=fun H' sm=>by
   rcases sq H' sm with z|z
   ·exact .inl ⟨_,z,rfl⟩
   ·exact .inr ⟨_,z,rfl⟩
  have Km:∀(H':Hp) (t':Int),Step b c H H' t t' 1->sV (il K) [] E0 (uM (ph 0) (uM (ph 1) Ae)) [some (.ref b),some (.ref a),none,none,none] H' Q:=fun H' t' st=>by
   have:=st.ub
   have:=st.le
   refine⟨_,rfl,_,rfl,b,c,t',G,.ref a,d,ds,m,rfl,st.bx,by omega,by omega,(g0.step st).sub,hd,jA,hgs,by omega,fun d' v' G' H2 t2 gd gl dd gg da =>?_⟩
   exact q d' v' G' H2 t2 (gd.mono (by omega) (by omega)) (by rw[OI];exact gl) dd ((g0.step st).trans gg (fun a z=>st.fresh bx z)) ((st.trans da).more (by omega))
  dsimp only[eG]
  refine⟨_,rfl,_,_,rfl,hlen H1 g1.up,.inl ⟨rfl,_,rfl,cL (fun _ =>?_) (fun C5 =>?_)⟩⟩
  ·exact Km _ _ (fY.more (by omega))
  have PU:1<=us.length:=by
   apply Classical.byContradiction
   intro z
   apply C5
   have:us.length=0:=by omega
   rw[this];decide
  refine⟨_,rfl,b,c,t,5,rfl,fY.bx,t0,by omega,by decide,by decide,fun r H2 r0 r1 da =>.inl ⟨rfl,_,rfl,cL (fun _ =>?_) (fun _ =>?_)⟩⟩
  ·exact Km _ _ ((fY.trans da).more (by omega))
  have da:=fY.trans da
  have g2:=g0.step da
  dsimp only[eG]
  refine⟨_,rfl,b,c,_,2,rfl,da.bx,by omega,by omega,by decide,by decide,fun r3 H3 r30 r31 bJ =>.inl ⟨rfl,gn ?_⟩⟩
  have bJ:=da.trans bJ
  have g3:=g0.step bJ
  dsimp only
  refine jX (te:=MP _ _ _) (fun u H'=>∃(at' t':Int),u = .int at'/\0<=at'/\at'<us.length/\Step b c H H' t t' 3) (fun Qn qn =>?_) ?_
  ·refine⟨_,rfl,_,rfl,cL (fun _ =>?_) (fun _ =>?_)⟩
   ·exact⟨_,rfl,_,_,rfl,hlen H3 g3.up,_,_,rfl,rfl,qn _ _ ⟨_,_,rfl,by omega,by omega,bJ.more (by omega)⟩⟩
   ·exact⟨_,rfl,_,rfl,_,_,rfl,hlen H3 g3.up,b,c,_,_,rfl,bJ.bx,by omega,by omega,by omega,by omega,fun r4 H4 r40 r41 cn=>qn _ _ ⟨_,_,rfl,r40,by omega,(bJ.trans cn).more (by omega)⟩⟩
  rintro u H4 ⟨at',t4,rfl,a0,a1,cn⟩
  have g4:=g0.step cn
  refine gn ?_
  refine⟨_,rfl,a,us,rfl,sq H4 g4.up,fun p H5 n5=>gn ?_⟩
  have hp:H p=none:=cn.fresh bx n5.nn
  have sM:G p=none:=by
   cases e:G p with
   | none=>rfl
   | some u=>have:=(cA (hG p u e)).1;rw[hp] at this;cases this
  obtain⟨pb,pc⟩:=cn.bx.aW n5.nn
  have bX:=cn.bD n5
  have g5:bI b c G G H5 H5:=bI.refl (hG.trans bX.sm)
  have GB:∀a,H5 a=none->H a=none:=fun a z=>bX.fresh bx z
  have OA:=bX.ub
  have QC:=bX.le
  obtain⟨y,hy,dy⟩:=dk.get (i:=at'.toNat) (Jc (show at'.toNat<ds.length by omega))
  have he:=Jx (show at'.toNat<ds.length by omega)
  refine⟨_,rfl,_,rfl,_,rfl,.inl ⟨p,us,_,y,rfl,rfl,aM.of n5.at,cV a0 hy,?_⟩⟩
  refine⟨b,c,_,(G,y,ds[at'.toNat]'(by omega)),m,rfl,by omega,gf _ he,by omega,bX.bx,by omega,by omega,g5.sub,dy,fun d' v' G6 H6 t6 gd6 _ dd6 g6 fh =>?_⟩
  dsimp only at g6
  have h6:=fh.old n5.at pb pc
  refine⟨_,rfl,_,rfl,p,us,_,at'.toNat,rfl,rfl,h6,nM a0 a1,?_⟩
  obtain⟨H7,c7⟩:∃H7,oZ H6 p (.lst (us.set at'.toNat v')) H7:=⟨_,⟨rfl⟩⟩
  rw[<-c7.eq]
  obtain⟨g7,le7⟩:=g6.put GB hp (by rw[n5.at];exact fun z=>nomatch z) sM pb pc c7.at (fun a z=>c7.ne z)
  have iD:=((bX.trans fh).my c7 hp pb pc).more (show(3:Int)+6*(m+1)<=6*((m+1:Nat)+1) by omega)
  have ud:au K G6 (ds.set at'.toNat d') (us.set at'.toNat v'):=qx (dk.same g6.gg) dd6
  have RY:Gs (63300+21001*(m+1)) (m+2) (ds.set at'.toNat d'):=((hgs.mono (Jd _) (show m<=m+2 by omega)).set gd6).mono (by omega) (Jd _)
  refine⟨_,rfl,.inl ⟨_, "tuple",d,_,rfl,(hd.same g7.gg).same g7.up,(iw K d).2.2.2.2,_,rfl,?_⟩⟩
  rcases jA with rfl|rfl
  ·exact bh ⟨_,rfl,q _ _ _ _ _ RY.list (by rw[OI];show(ds.set _ _).length<=_;rw[U8];omega) (l7 aq (ud.same le7)) g7 iD⟩
  ·refine bw ⟨_,rfl,p,_,rfl,.inl ⟨aM.of c7.at,fun p8 H8 n8 =>?_⟩⟩
   exact q _ _ _ _ _ RY.tuple (by rw[OI];show(ds.set _ _).length<=_;rw[U8];omega) (jC aq ((ud.same le7).same (fR g7.up n8.nn))) (g7.bD iD.bx n8 (iD.fresh bx n8.nn)) (iD.bD n8)
end
noncomputable def fm:PyData->PyData
 | .tuple ds =>.list ds
 | d=>d
noncomputable def cf:PyData->List (Str×Str)
 | .list ds=>ds.map fun d=>match d with
  | .tuple [.str x,.str y]=>(x,y)
  | _=>(Str.empty,Str.empty)
 | _=>[]
theorem rn {d:PyData}(h:cq d=true):d=aI (cf d)/\∀q∈cf d,cM (.str q.1)=true/\cj (.str q.2)=true:=by
 cases d with
 | list ds=>
  replace h:(!ds.isEmpty&&(ds.all bg&&decide ((bR (fun i=>(ds.map fF).getD i Str.empty) ds.length).length=ds.length)))=true:=h
  rw[Jw,Jw,Yk] at h
  have he:=h.2.1
  clear h
  induction ds with
  | nil=>exact⟨rfl,fun q hq=>nomatch hq⟩
  | cons e ds ih=>
   obtain⟨e1,e2⟩:=ih fun x hx=>he x (Jo _ hx)
   have z:=he e Js
   obtain⟨x,y,rfl⟩:=oq z
   have z:(cM (.str x)&&cj (.str y))=true:=z
   rw[Jw] at z
   have e1:ds=(cf (.list ds)).map fun q =>.tuple [.str q.1,.str q.2]:=PyData.list.inj e1
   refine⟨?_,fun q hq =>?_⟩
   ·show PyData.list (.tuple [.str x,.str y]::ds) = .list (.tuple [.str x,.str y]::(cf (.list ds)).map fun q =>.tuple [.str q.1,.str q.2])
    rw[<-e1]
   ·rcases Jm.mp (show q∈(x,y)::cf (.list ds) from hq) with rfl|hq
    ·exact z
    ·exact e2 q hq
 | _=>simp[cq] at h
theorem xk {x y:Str}(h:x.cps.toList=y.cps.toList):x=y:=by
 cases x;cases y
 congr 1
 exact Array.toList_inj.mp h
theorem pO:∀(p:Str) (l:List Str),PyProof.Rows.risingS p l=true->(p::l).Pairwise fun a b=>a.cps.toList<=b.cps.toList
 | p,[],_=>by simp
 | p,x::r,h=>by
  have h:(!Spec.ltCps x.cps.toList p.cps.toList&&PyProof.Rows.risingS x r)=true:=h
  rw[Jw,PyProof.Rows.ltCps_eq,Bool.not_eq_true',decide_eq_false_iff_not] at h
  have ih:=pO x r h.2
  have px:p.cps.toList<=x.cps.toList:=h.1
  refine List.pairwise_cons.mpr ⟨fun y hy =>?_,ih⟩
  rcases Jm.mp hy with rfl|hy
  ·exact px
  ·exact List.le_trans px ((List.pairwise_cons.mp ih).1 y hy)
theorem lM {a:List Str}(h:PyProof.Rows.sortedS a=true):a.Pairwise fun a b=>a.cps.toList<=b.cps.toList:=by
 cases a with
 | nil=>exact .nil
 | cons p l=>exact pO p l h
theorem qc {a b:List Str}(h:a.Perm b)(ha:PyProof.Rows.sortedS a=true)(hb:PyProof.Rows.sortedS b=true):a=b:=
 h.eq_of_pairwise (fun x y _ _ h1 h2=>xk (List.le_antisymm h1 h2)) (lM ha) (lM hb)
noncomputable def mh (bk:List (Str×Str)):Bool := @decide (fg (bk.map (·.2))) (Classical.propDecidable _)
noncomputable def bW (names:List Str)(d:PyData):Bool:=cq (fm d)&&(decide (((cf (fm d)).map (·.1)).Perm names)&&mh (cf (fm d)))
structure Ee (d:PyData):Prop where
 pz:Pz d=true
 wt:d.weight<=300000
 sh:SeqAt.shaped d=true
 pA:∀ds,fm d = .list ds->ds.length<=60
 cd:∀q∈cf (fm d),q.2.length<=200000
theorem qA (d:PyData):(fm d).weight=d.weight:=by cases d<;>simp only[fm,PyData.weight]
theorem AK {d:PyData}(h:Pz d=true):Pz (fm d)=true:=by cases d<;>simpa only [fm,Pz] using h
theorem IJ {d:PyData}(h:SeqAt.shaped d=true):SeqAt.shaped (fm d)=true:=by cases d<;>exact h
theorem HD {K:Ja}{H:Hp}{bk:List (Str×Str)}{v:V}(h:Den K H (aI bk) v):fE fun(a:Addr) (us:List V)=>v = .ref a/\aM K H a us/\us.length=bk.length/\∀(i:Nat) (q:Str×Str),bk[i]? = some q->∃b:Addr,us[i]? = some (.ref b)/\cE K H b [.str q.1,.str q.2]:=by
 unfold aI Den at h
 obtain⟨a,us,rfl,hS,dk⟩:=h
 refine⟨a,us,rfl,hS,by have:=dk.len;rw[Je] at this;exact this,fun i q e =>?_⟩
 obtain⟨u,hu,du⟩:=dk.get (i:=i) (d := .tuple [.str q.1,.str q.2]) (by rw[Jl,e];rfl)
 unfold Den at du
 obtain⟨b,vs,rfl,hT,hd⟩:=du
 unfold au at hd
 obtain⟨x,r,rfl,hx,hd⟩:=hd
 unfold au at hd
 obtain⟨y,r,rfl,hy,hd⟩:=hd
 unfold au at hd
 unfold Den at hx hy
 subst hd hx hy
 exact⟨b,hu,hT⟩
theorem nL:∀(a b:List Str),PyData.eqvAll (a.map PyData.str) (b.map PyData.str)=decide (a=b)
 | [],[]=>by simp[PyData.eqvAll]
 | [],_::_=>by simp[PyData.eqvAll]
 | _::_,[]=>by simp[PyData.eqvAll]
 | x::a,y::b=>by
  rw[Ub,Ub]
  simp only[PyData.eqvAll,PyData.eqv,nL a b,List.cons.injEq,Bool.decide_and]
  rfl
theorem wW {x:Str}(h:fk x=true):∀c∈x.cps.toList,c<128:=fun c hc=>by
 unfold fk at h
 rw[Ys] at h
 have:=h c (by simpa using hc)
 simpa using this
theorem rV {ks:List Str}(h:∀x∈ks,fk x=true):SeqAt.shaped (.list (ks.map PyData.str))=true:=(Sh.list (n:=0) fun d hd=>by
 obtain⟨x,hx,rfl⟩:=Ur.mp hd
 exact Sh.str (dW fun ch hc=>by have:=wW (h x hx) ch hc;omega)).shaped (by decide)
def A9 (K:Ja):Sp:=fun vs H Q _=>rX fun(v:V) (d:PyData) (p:Addr) (ns:List Str)=>vs=[v,.ref p]/\Den K H d v/\Ee d/\(aM K H p (ns.map V.str)∨cE K H p (ns.map V.str))/\ns.length<64/\(∀x∈ns,fk x=true)/\∀H',ak H H'->Q (.bl (bW ns d)) H'
section
variable {P:Program}{w:World}{K:Ja}{mg:Str->Option Value}{base:Heap}{f:Addr}{fd:FuncData}
theorem fU:aR ["thing", "names", "book"] ["thing", "names"] (av (top dR)):=⟨rfl,rfl,rfl,by decide +kernel,rfl,by decide +kernel,by decide +kernel⟩
theorem Hl (F:cR K "is_free_book_of" "is_free_book_of" (top dR) f fd)(T:Nm mg)(d7:mg "sorted" = none)(zv:Fn P w K mg base 4 "is_book" ["thing"] (m6 K))(HI:Fn P w K mg base 3 "free" ["book"] (wo K)):bC P w K mg base gG 5 f fd ["thing", "names"] (A9 K):=by
 refine F.ok fU (fun vs H Q E h =>?_) (fun dI A outer s H vs Q E hr h =>?_)
 ·obtain⟨v,d,p,ns,rfl,_⟩:=h
  rfl
 obtain⟨v,d,p,ns,rfl,hd,fit,AB,nl,na,q⟩:=h
 have cY:=hr.units
 refine⟨_,(af (aL (i:=2) fU.nd rfl (Or.inl rfl) (fV (br (ai (eV K) rfl T.n_isinstance (by rfl) (aa (pv 0) (aa (aY rfl T.n_tuple (by rfl) (v := .ty "tuple") rfl) ae)))) (ba (mi K) rfl T.n_list (by rfl) (aa (pv 0) ae)) (pv 0)))
  (af (aX (PW.pt (gh (bT (br (aO (zv.mono (by decide)) hr rfl (aa (pv 2) ae)))) (fq (aK (zj K cY) (ai (i7 K) rfl d7 (by rfl) (aa (cW rfl (cP (Nc:=["name", "code"]) (Fc:=[]) (js:=[])) (AA K (pv 2)) (ra (eW (cc (i:=0) (n:=2) (by decide)) (eW (cc (i:=1) (n:=2) (by decide)) mG dC gm) dC (km dC gm))) (fun _ _ _ _ _=>(tupK K 2 rfl (bb (aU (i:=0) (rY ["name", "code"]) rfl (Or.inl rfl)) (bb (aU (i:=1) (rY ["name", "code"]) rfl (Or.inl rfl)) dB)))) (fun _ _ _ _ _=>di) (fun _ _ _ _ _=>(pv 0))) ae)) (ai (i7 K) rfl d7 (by rfl) (aa (pv 1) ae)) (aH _))))) (ag (aB fG)) aN)
  (ag (aB (aO (HI.mono (by decide)) hr rfl (aa (pv 2) ae)))))),?_⟩
 refine jX (te:=MP _ _ _) (fun v2 H'=>ak H H'/\Den K H' (fm d) v2) (fun Qn qn =>?_) ?_
 ·refine⟨_,rfl,.inl ⟨_, "tuple",d,_,rfl,hd,(iw K d).2.2.2.2,_,rfl,?_⟩⟩
  cases d with
  | tuple ds=>
   have e:=hd
   unfold Den at e
   obtain⟨a,us,rfl,hT,dk⟩:=e
   refine bw ⟨_,rfl,a,us,rfl,.inr hT,fun l H1 n1=>qn _ _ ⟨n1.same,?_⟩⟩
   show Den K H1 (.list ds) _
   unfold Den
   exact⟨l,us,rfl,aM.of n1.at,dk.same n1.same⟩
  | _=>exact bh ⟨_,rfl,qn _ _ ⟨ak.refl _,hd⟩⟩
 rintro v2 H1 ⟨s1,d1⟩
 refine gn ?_
 refine⟨_,rfl,v2,fm d,rfl,d1,by rw[qA];exact fit.wt,IJ fit.sh,fun ds e=>Jg (fit.pA ds e) (by decide),fun H2 s2 =>?_⟩
 have iG:=s1.trans s2
 refine⟨_,rfl,?_⟩
 cases hb:cq (fm d) with
 | false=>
  have z:=q H2 iG
  rw[show bW ns d=false by unfold bW;rw[hb,U9]] at z
  exact bw (bw z)
 | true=>
  obtain⟨eb,ok⟩:=rn hb
  have fl:=fit.pA (match fm d with | .list ds=>ds|_=>[]) (by rw[eb];rfl)
  have d2:=d1.same s2
  rw[eb] at d2
  have bl:(cf (fm d)).length<=60:=by
   rw[eb] at fl
   have:((cf (fm d)).map fun q=>PyData.tuple [.str q.1,.str q.2]).length<=60:=fl
   rw[Je] at this
   exact this
  have wt:(aI (cf (fm d))).weight<=300000:=by rw[<-eb,qA];exact fit.wt
  have Ru:Pz (aI (cf (fm d)))=true:=by rw[<-eb];exact AK fit.pz
  have fb:bW ns d=(decide (((cf (fm d)).map (·.1)).Perm ns)&&mh (cf (fm d))):=by unfold bW;rw[hb,U3]
  have cd:=fit.cd
  generalize cf (fm d)=bk at d2 bl wt fb ok Ru cd
  rw[fb] at q
  refine bh ?_
  obtain⟨a,us,rfl,hS,MT,dk⟩:=HD d2
  have pz:Pz (aI bk)=true:=Ru
  have az:∀x∈bk.map (·.1),fk x=true:=fun x hx=>by
   obtain⟨q0,hq0,rfl⟩:=Ur.mp hx
   have h1:Bz (bk.map fun q=>PyData.tuple [.str q.1,.str q.2])=true:=by simpa only [aI,Pz] using pz
   have h2:=mO.mp h1 _ (Ur.mpr ⟨q0,hq0,rfl⟩)
   simp only[Pz,Bz,Jw] at h2
   exact h2.1
  have small:∀{n:Nat},n<=10000->n<sizeLine:=fun h=>J3 h (by decide)
  refine⟨_,rfl,a,rfl,⟨_,hS⟩,?_⟩
  refine dj (N:=bk.length) (fun i ys H'=>ak H2 H'/\ys=((bk.take i).map (·.1)).map V.str) ⟨ak.refl _,rfl⟩ ?_ ?_
  ·rintro i ys H3 Ny hi ⟨s3,rfl⟩ ny
   obtain⟨b,rZ,hT⟩:=dk i bk[i] (Jc hi)
   refine⟨⟨_,_,s3.seq hS,rZ⟩,small (by rw[Je,Je,Um];omega),?_⟩
   rintro x' H4 ⟨rfl,hy⟩
   have e:=hy _ (s3.seq hS)
   rw[rZ] at e;cases e
   refine⟨b,_,rfl,s3.fM hT,rfl,_,_,rfl,gn ⟨_,_,rfl,gn ⟨rfl,_,rfl,ny _ _ ⟨s3,?_⟩⟩⟩⟩
   rw[Ul hi,Ue,Ue]
   rfl
  ·rintro ys H3 ⟨s3,rfl⟩
   refine⟨⟨_,s3.seq hS,by rw[MT];exact Jd _⟩,fun pv hp =>?_⟩
   rw[Wa]
   have Vs:ak H2 (upd H3 pv (.lst ((bk.map (·.1)).map V.str))):=s3.trans (bV hp _)
   refine⟨pv,bk.map (·.1),rfl,.inl (aM.of aq),by rw[Je];omega,fun ms q1 H4 pm so n4 =>?_⟩
   have s4:=Vs.trans n4.same
   refine⟨_,rfl,p,ns,rfl,AB.imp (iG.trans s4).seq (iG.trans s4).fM,nl,fun ms2 q2 H5 xA so2 n5 =>.inr ⟨.list (ms.map .str),.list (ms2.map .str),Den.list (aM.of (n5.same _ _ n4.at)) (Den.strs _),Den.list (aM.of n5.at) (Den.strs _),rV fun x hx=>az x (pm.mem_iff.mp hx),rV fun x hx=>na x (xA.mem_iff.mp hx),?_⟩⟩
   have s5:=s4.trans n5.same
   have ev:PyData.eqv (.list (ms.map .str)) (.list (ms2.map .str))=decide (ms=ms2):=by simp only[PyData.eqv];exact nL ms ms2
   rw[ev]
   by_cases e:ms=ms2
   ·have pp:(bk.map (·.1)).Perm ns:=pm.symm.trans (by rw[e];exact xA)
    rw[show decide ((bk.map (·.1)).Perm ns)=true from decide_eq_true pp,U3] at q
    rw[decide_eq_true e]
    refine⟨_,rfl,bh ⟨_,rfl,.ref a,bk,rfl,d2.same s5,by omega,cd,fun fr H6 s6 =>?_,fun fr H6 s6 =>?_⟩⟩
    ·have z:=q H6 (iG.trans (s5.trans s6))
     rw[show mh bk=true from @decide_eq_true _ (Classical.propDecidable _) fr] at z
     exact z
    ·have z:=q H6 (iG.trans (s5.trans s6))
     rw[show mh bk=false from @decide_eq_false _ (Classical.propDecidable _) fr] at z
     exact z
   ·have np:¬(bk.map (·.1)).Perm ns:=fun pp=>e (qc (pm.trans (pp.trans xA.symm)) so so2)
    have z:=q H5 (iG.trans s5)
    rw[show decide ((bk.map (·.1)).Perm ns)=false from decide_eq_false np,U9] at z
    rw[decide_eq_false e]
    exact⟨_,rfl,bw z⟩
end
noncomputable abbrev aG:List Str:=["set", "add", "take", "tell", "ask", "jump", "zero", "stop", "farjump", "farzero", "skip"]
noncomputable abbrev cH:List Str:=["a", "b", "c", "d"]
noncomputable abbrev bQ:List Str:=["none", "one", "two", "three", "four", "five", "six", "seven", "eight"]
noncomputable def oo:PyData->Bool
 | .int _=>true
 | _=>false
noncomputable def eZ (bk:List (Str×Str)):List (Key×V):=bk.map fun q=>((Sum.inr q.1:Key),V.str q.2)
noncomputable def cz:List (Str×Str)->Str->Str
 | [],_=>Str.empty
 | q::r,x=>if q.1=x then q.2 else cz r x
noncomputable def gO (bk:List (Str×Str))(near iB:Int):Bool:=["jump", "zero"].any fun j:String=>decide (((cz bk (Str.ofString ("far" ++ j))).length:Int)+iB<((cz bk (Str.ofString j)).length:Int)+near)
noncomputable def uk:PyData->Bool
 | .int i=>decide (2<=i)&&decide (i<=8)
 | _=>false
noncomputable def Aq (d1:PyData):PyData->PyData->Bool
 | .int n,.int f=>decide (n<f)&&(decide (f<=16) && !gO (cf (fm d1)) n f)
 | _,_=>false
noncomputable def zQ (d1 d4 d5:PyData):Option Str:=if uk d4=false then some "near" else if Aq d1 d4 d5=false then some "far" else none
noncomputable def gb (d1 d2 d3 d4 d5:PyData):Option Str:=
 if bW aG d1=false then some "kinds" else if bW cH d2=false then some "spots" else if bW bQ d3=false then some "sizes" else zQ d1 d4 d5
noncomputable def uz:Option Str->V
 | none =>.non
 | some x =>.str x
theorem j4:∀{bk:List (Str×Str)} {x:Str},x∈bk.map (·.1)->gW (eZ bk) (.inr x)=some (.str (cz bk x))
 | q::r,x,h=>by
  show gW ((Sum.inr q.1,V.str q.2)::eZ r) _=some (.str (if q.1=x then q.2 else cz r x))
  by_cases e:q.1=x
  ·rw[fj (by rw[e]),if_pos e]
  ·rw[fe (fun z=>e (Sum.inr.inj z)),if_neg e]
   refine j4 ?_
   rcases Jm.mp h with z|z
   ·exact absurd z.symm e
   ·exact z
theorem qF:∀{bk:List (Str×Str)} (x:Str),(∀q∈bk,q.2.length<=200000)->(cz bk x).length<=200000
 | [],_,_=>Uw _
 | q::r,x,h=>by
  unfold cz
  split
  ·exact h q Js
  ·exact qF x fun z hz=>h z (Jo _ hz)
theorem pU:∀(kvs acc:List (Key×V)),(kvs.map (·.1)).Nodup->(∀kv∈kvs,gW acc kv.1=none)->cK acc kvs=acc++kvs
 | [],acc,_,_=>by show acc=acc++[];rw[Yg]
 | kv::kvs,acc,nd,h=>by
  rw[Ub] at nd
  obtain⟨n1,n2⟩:=Yq.mp nd
  show cK (putK acc kv.1 kv.2) kvs=_
  rw[Bh _ (h kv Js),pU kvs _ n2 fun kw hw =>?_]
  ·rw[List.append_assoc];rfl
  ·rw[qf _ _ _ _ (h kv Js),if_neg (fun z=>n1 (by rw[<-z];exact List.mem_map_of_mem hw))]
   exact h kw (Jo _ hw)
theorem kN {bk:List (Str×Str)}(h:(bk.map (·.1)).Nodup):cK [] (eZ bk)=eZ bk:=by
 have nd:((eZ bk).map (·.1)).Nodup:=by
  unfold eZ
  rw[Yu]
  refine List.pairwise_map.mpr ((List.pairwise_map.mp h).imp fun{a b} z e=>z (Sum.inr.inj e))
 rw[pU _ _ nd fun kv _=>rfl]
 rfl
theorem qE {K:Ja}{H:Hp}{bk:List (Str×Str)}{us:List V}(h:au K H (bk.map fun q =>.tuple [.str q.1,.str q.2]) us):∃as:List Addr,us=as.map V.ref/\as.length=bk.length/\∀(j:Nat) b (kv:Key×V),as[j]? = some b->(eZ bk)[j]? = some kv->cE K H b [kV kv.1,kv.2]:=by
 induction bk generalizing us with
 | nil=>
  unfold au at h
  subst h
  exact⟨[],rfl,rfl,fun j b kv e=>nomatch e⟩
 | cons q bk ih=>
  rw[Ub] at h
  unfold au at h
  obtain⟨v,r,rfl,hd,h⟩:=h
  obtain⟨as,rfl,hl,hk⟩:=ih h
  unfold Den at hd
  obtain⟨b,vs,rfl,hT,hd⟩:=hd
  unfold au at hd
  obtain⟨x,r,rfl,hx,hd⟩:=hd
  unfold au at hd
  obtain⟨y,r,rfl,hy,hd⟩:=hd
  unfold au at hd
  unfold Den at hx hy
  subst hd hx hy
  refine⟨b::as,rfl,by rw[J0,J0,hl],fun j c kv e1 e2 =>?_⟩
  cases j with
  | zero=>cases e1;cases e2;exact hT
  | succ j=>exact hk j c kv e1 e2
theorem xu {K:Ja}{H:Hp}{d:PyData}{bk:List (Str×Str)}{v:V}(h:Den K H d v)(e:fm d=aI bk):∃(p:Addr) (as:List Addr),v = .ref p/\(aM K H p (as.map V.ref)∨cE K H p (as.map V.ref))/\as.length=bk.length/\∀(j:Nat) b (kv:Key×V),as[j]? = some b->(eZ bk)[j]? = some kv->cE K H b [kV kv.1,kv.2]:=by
 cases d with
 | list ds=>
  have e:ds=bk.map fun q =>.tuple [.str q.1,.str q.2]:=PyData.list.inj e
  unfold Den at h
  obtain⟨p,us,rfl,hS,hd⟩:=h
  rw[e] at hd
  obtain⟨as,rfl,hl,hk⟩:=qE hd
  exact⟨p,as,rfl,.inl hS,hl,hk⟩
 | tuple ds=>
  have e:ds=bk.map fun q =>.tuple [.str q.1,.str q.2]:=PyData.list.inj e
  unfold Den at h
  obtain⟨p,us,rfl,hS,hd⟩:=h
  rw[e] at hd
  obtain⟨as,rfl,hl,hk⟩:=qE hd
  exact⟨p,as,rfl,.inr hS,hl,hk⟩
 | _=>exact absurd e (by unfold aI fm;exact fun z=>nomatch z)
def vJ (K:Ja):Sp:=fun vs H Q _=>∃(v:V) (d:PyData),vs=[v]/\Den K H d v/\∀H',ak H H'->Q (.bl (oo d)) H'
def BI (K:Ja):Sp:=fun vs H Q _=>uR fun(v:V) (d:PyData) (bk:List (Str×Str)) (n f:Int)=>vs=[v,.int n,.int f]/\Den K H d v/\fm d=aI bk/\bk.length<=60/\(∀q∈bk,q.2.length<=200000)/\(bk.map (·.1)).Nodup/\(∀x∈aG,x∈bk.map (·.1))/\∀H',ak H H'->Q (.bl (gO bk n f)) H'
section
variable {P:Program}{w:World}{K:Ja}{mg:Str->Option Value}{base:Heap}{f:Addr}{fd:FuncData}{aJ aP aS aZ:Addr}{t1 t2 t3:Tok}
theorem rb:aR ["thing"] ["thing"] (av (top jj)):=⟨rfl,rfl,rfl,by decide +kernel,rfl,by decide +kernel,by decide +kernel⟩
theorem Bj (F:cR K "is_number" "is_number" (top jj) f fd)(T:Nm mg):bC P w K mg base gG 1 f fd ["thing"] (vJ K):=by
 refine F.ok rb (fun vs H Q E h =>?_) (fun dI A outer s H vs Q E hr h =>?_)
 ·obtain⟨v,d,rfl,_⟩:=h
  rfl
 obtain⟨v,d,rfl,hd,q⟩:=h
 have hq:=q H (ak.refl _)
 refine⟨_,(ag (aB (dY (ai (eV K) rfl T.n_isinstance (by rfl) (aa (pv 0) (aa (aY rfl T.n_int (by rfl) (v := .ty "int") rfl) ae))) (iL (vt (ai (eV K) rfl T.n_isinstance (by rfl) (aa (pv 0) (aa (aY rfl T.n_bool (by rfl) (v := .ty "bool") rfl) ae)))))))),?_⟩
 refine⟨_,rfl,.inl ⟨_, "int",d,_,rfl,hd,(iw K d).2.1,_,rfl,?_⟩⟩
 cases d with
 | int i=>exact bw ⟨_,rfl,.inl ⟨_, "bool",.int i,_,rfl,hd,(iw K (.int i)).1,_,rfl,hq⟩⟩
 | bool i=>exact bw ⟨_,rfl,.inl ⟨_, "bool",.bool i,_,rfl,hd,(iw K (.bool i)).1,_,rfl,hq⟩⟩
 | _=>exact bh hq
theorem gq:aR ["kinds", "near", "far", "codes"] ["kinds", "near", "far"] (av (top eL)):=⟨rfl,rfl,rfl,by decide +kernel,rfl,by decide +kernel,by decide +kernel⟩
theorem HY (F:cR K "far_is_shorter" "far_is_shorter" (top eL) f fd)(T:Nm mg)(fB:mg "dict" = none)(qw:mg "JUMPS" = some (.ref aJ))(hJ:∀H,cE K H aJ [V.str "jump",V.str "zero"]):bC P w K mg base gG 1 f fd ["kinds", "near", "far"] (BI K):=by
 refine F.ok gq (fun vs H Q E h =>?_) (fun dI A outer s H vs Q E hr h =>?_)
 ·obtain⟨v,d,bk,n,f,rfl,_⟩:=h
  rfl
 obtain⟨v,d,bk,n,f,rfl,hd,ea,bl,cl,nd,hk,q⟩:=h
 have hu:=ur hr
 have cY:=hr.units
 obtain⟨p,as,rfl,sq,al,hT⟩:=xu hd ea
 have bn:(eZ bk).length=bk.length:=by unfold eZ;rw[Je]
 refine⟨_,(af (aL (i:=3) gq.nd rfl (Or.inr rfl) (ba (CP K rfl) rfl fB (by rfl) (aa (pv 0) ae)))
  (ag (aB (ai (OZ K rfl) rfl T.n_any (by rfl) (aa (cW rfl (cP (Nc:=["jump"]) (Fc:=["far", "near", "codes"]) (js:=[2,1,3])) (jq K (dh rfl qw)) (cc (i:=0) (n:=1) (by decide)) (fun _ _ _ _ _=>(aU (i:=0) (rY ["jump", "far", "near", "codes"]) rfl (Or.inl rfl))) (fun _ _ _ _ _=>di) (fun _ _ _ _ _=>(cQ nC (aQ cp (ai (dQ K) rfl T.n_len (by rfl) (aa (cN hu (pv 3) (aQ cp aD (pv 0)) (fun _ _=>rfl)) ae)) (pv 1)) (aQ cp (ai (dQ K) rfl T.n_len (by rfl) (aa (cN hu (pv 3) (pv 0) (fun _ _=>rfl)) ae)) (pv 2)) (aH _)))) ae))))),?_⟩
 refine⟨_,rfl,p,as,eZ bk,rfl,sq,by rw[bn];exact al,by rw[bn];omega,hT,fun dd H1 n1=>gn ?_⟩
 rw[kN nd] at n1
 have small:∀{n:Nat},n<=1000000->n<sizeLine:=fun h=>J3 h (by decide)
 let tst:Str->Bool:=fun j=>decide (((cz bk (Str.ofString "far" ++ j)).length:Int)+f<((cz bk j).length:Int)+n)
 have js:∀j∈(["jump", "zero"]:List Str),j∈aG/\(Str.ofString "far" ++ j)∈aG/\j.length<=10:=by decide +kernel
 refine⟨aJ,rfl,⟨_,hJ _⟩,?_⟩
 refine dj (N:=2) (fun i ys H'=>ak H1 H'/\ys=(((["jump", "zero"]:List Str).take i).map tst).map V.bl) ⟨ak.refl _,rfl⟩ ?_ ?_
 ·rintro i ys H2 Ny hi ⟨s2,rfl⟩ ny
  have RG:([V.str "jump",V.str "zero"]:List V)[i]? = some (.str ((["jump", "zero"]:List Str)[i])):=by
   match i,hi with
   | 0,_=>rfl
   | 1,_=>rfl
  refine⟨⟨_,_,hJ _,RG⟩,small (by rw[Je,Je,Um];omega),?_⟩
  rintro x' H3 ⟨rfl,hy⟩
  have e:=hy _ (hJ _)
  rw[RG] at e;cases e
  obtain⟨j,hj⟩:∃j,j=(["jump", "zero"]:List Str)[i]:=⟨_,rfl⟩
  have jm:=js j (by rw[hj];exact Jx _)
  rw[<-hj]
  refine gn ?_
  have h2:=s2 _ _ n1.at
  have gd:∀{Hx:Hp},Hx dd=some (.dK (eZ bk))->∀x,x∈aG->iz Hx dd (.str x) (some (.str (cz bk x))):=fun h x hx=>by
   rw[<-j4 (hk x hx)]
   exact iz.k (k := .inr x) h
  have l1:=qF (Str.ofString "far" ++ j) cl
  have l2:=qF j cl
  have lf:(Str.ofString "far").length=3:=rfl
  have sz:∀{x:Str},x.length<=200000->x.length<=sizeLine:=fun h=>Jg h (by decide)
  refine⟨_,rfl,_,rfl,.inr (.inl ⟨_,_,rfl,rfl,Uz (small (by rw[lf];omega)),dd,_,rfl,gd h2 _ jm.2.1,?_⟩)⟩
  refine⟨_,_,rfl,⟨sz l1,rfl⟩,_,rfl,.inl ⟨_,_,rfl,rfl,?_⟩⟩
  refine⟨_,rfl,_,rfl,dd,_,rfl,gd h2 _ jm.1,_,_,rfl,⟨sz l2,rfl⟩,_,rfl,.inl ⟨_,_,rfl,rfl,_,_,rfl,rfl,ny _ _ ⟨s2,?_⟩⟩⟩
  rw[Ul (show i<(["jump", "zero"]:List Str).length from hi),Ue,Ue,hj]
  rfl
 ·rintro ys H2 ⟨s2,rfl⟩
  refine⟨⟨_,hJ _,Jd _⟩,fun pv hp=>⟨pv,_,rfl,aM.of aq,?_⟩⟩
  exact q _ (n1.same.trans (s2.trans (bV hp _)))
end
noncomputable def gu:PyData->PyData
 | .list ds =>.tuple ds
 | d=>d
structure pq (K:Ja)(H:Hp)(v1 v2 v3 v4 v5:V)(d1 d2 d3 d4 d5:PyData):Prop where
 e1:Den K H d1 v1
 e2:Den K H d2 v2
 e3:Den K H d3 v3
 e4:Den K H d4 v4
 e5:Den K H d5 v5
 f1:Ee d1
 f2:Ee d2
 f3:Ee d3
theorem pq.same {K:Ja}{H H':Hp}{v1 v2 v3 v4 v5:V}{d1 d2 d3 d4 d5:PyData}(h:pq K H v1 v2 v3 v4 v5 d1 d2 d3 d4 d5)(s:ak H H'):pq K H' v1 v2 v3 v4 v5 d1 d2 d3 d4 d5:=⟨h.e1.same s,h.e2.same s,h.e3.same s,h.e4.same s,h.e5.same s,h.f1,h.f2,h.f3⟩
structure Lh (K:Ja)(P:Program)(w:World)(mg:Str->Option Value)(aP aS aZ:Addr)(t1 t2 t3:Tok):Prop where
 gP:mg "PARTS" = some (.ref aP)
 gS:mg "SPOT_NAMES" = some (.ref aS)
 gZ:mg "SIZE_NAMES" = some (.ref aZ)
 P:mI fun es n kvs=>xr K P w aP es n kvs/\kvs.map (·.1)=aG
 S:∀H,cE K H aS (cH.map V.str)
 Z:∀H,cE K H aZ (bQ.map V.str)
 vl:mg "LEAST_NEAR" = some (.int 2 t1)
 vm:mg "MOST_NEAR" = some (.int 8 t2)
 vf:mg "MOST_FAR" = some (.int 16 t3)
def Hz (K:Ja):Sp:=fun vs H Q _=>∃(v1 v2 v3 v4 v5:V) (d1 d2 d3 d4 d5:PyData),vs=[v1,v2,v3,v4,v5]/\pq K H v1 v2 v3 v4 v5 d1 d2 d3 d4 d5/\∀H',ak H H'->Q (uz (gb d1 d2 d3 d4 d5)) H'
theorem BK {d:PyData}(h:oo d=false):uk d=false:=by cases d<;>first|rfl|cases h
theorem xE {d:PyData}(h:oo d=true):∃i,d = .int i:=by cases d<;>first|exact⟨_,rfl⟩|cases h
theorem lF:(∀x∈aG,fk x=true)/\(∀x∈cH,fk x=true)/\∀x∈bQ,fk x=true:=by decide +kernel
theorem cI:aG.Nodup:=by decide +kernel
section
variable {P:Program}{w:World}{K:Ja}{mg:Str->Option Value}{base:Heap}{f:Addr}{fd:FuncData}{aP aS aZ:Addr}{t1 t2 t3:Tok}
theorem oN:aR ["kinds", "spots", "sizes", "near", "far"] ["kinds", "spots", "sizes", "near", "far"] (av (top gC)):=⟨rfl,rfl,rfl,by decide +kernel,rfl,by decide +kernel,by decide +kernel⟩
theorem LO (F:cR K "first_wrong" "first_wrong" (top gC) f fd)(T:Nm mg)(M:Lh K P w mg aP aS aZ t1 t2 t3)(dX:Fn P w K mg base 5 "is_free_book_of" ["thing", "names"] (A9 K))(mr:Fn P w K mg base 1 "is_number" ["thing"] (vJ K))(lH:Fn P w K mg base 1 "far_is_shorter" ["kinds", "near", "far"] (BI K)):bC P w K mg base gG 6 f fd ["kinds", "spots", "sizes", "near", "far"] (Hz K):=by
 refine F.ok oN (fun vs H Q E h =>?_) (fun dI A outer s H vs Q E hr h =>?_)
 ·obtain⟨v1,v2,v3,v4,v5,d1,d2,d3,d4,d5,rfl,_⟩:=h
  rfl
 obtain⟨v1,v2,v3,v4,v5,d1,d2,d3,d4,d5,rfl,D,q⟩:=h
 have cY:=hr.units
 have DH:=M.gP
 have rA:=M.gS
 have rp:=M.gZ
 have kP:=M.vl
 have l9:=M.vm
 have oP:=M.vf
 obtain⟨es,n,kvs,KD,ek⟩:=M.P
 refine⟨_,(af (aX (bT (br (aO (dX.mono (by decide)) hr rfl (aa (pv 0) (aa (ba (HJ rfl) rfl T.n_list (by rfl) (aa (dh rfl DH) ae)) ae))))) (ag (aB aD)) aN)
  (af (aX (bT (br (aO (dX.mono (by decide)) hr rfl (aa (pv 1) (aa (dh rfl rA) ae))))) (ag (aB aD)) aN)
  (af (aX (bT (br (aO (dX.mono (by decide)) hr rfl (aa (pv 2) (aa (dh rfl rp) ae))))) (ag (aB aD)) aN)
  (af (aX (PW.pt (gh (bT (br (aO (mr.mono (by decide)) hr rfl (aa (pv 3) ae)))) (fq (bT (uH mY mY (mJ rfl kP) (pv 3) (mJ rfl l9)))))) (ag (aB aD)) aN)
  (af (aX (PW.pt (gh (bT (br (aO (mr.mono (by decide)) hr rfl (aa (pv 4) ae)))) (gh (bT (uH nC mY (pv 3) (pv 4) (mJ rfl oP))) (fq (br (aO (lH.mono (by decide)) hr rfl (aa (pv 0) (aa (pv 3) (aa (pv 4) ae))))))))) (ag (aB aD)) aN)
  (ag (aB cJ))))))),?_⟩
 refine⟨_,rfl,aP,es,n,kvs,rfl,KD,by have:=congrArg List.length ek;rw[Je] at this;rw[this];decide,fun p H1 n1 =>?_⟩
 rw[ek] at n1
 refine⟨v1,d1,p,aG,rfl,D.e1.same n1.same,D.f1,.inl (aM.of n1.at),by decide,lF.1,fun H2 s2=>⟨_,rfl,?_⟩⟩
 have iG:=n1.same.trans s2
 have D2:=D.same iG
 have wy:∀{y:Option Str},gb d1 d2 d3 d4 d5=y->∀H',ak H H'->Q (uz y) H':=fun e H' sm=>by rw[<-e];exact q H' sm
 cases h1:bW aG d1 with
 | false=>exact bw (wy (if_pos h1) _ iG)
 | true=>
 have NX:¬bW aG d1=false:=by rw[h1];decide
 refine bh ?_
 dsimp only[eG]
 refine⟨_,rfl,v2,d2,aS,cH,rfl,D2.e2,D2.f2,.inr (M.S _),by decide,lF.2.1,fun H3 s3=>⟨_,rfl,?_⟩⟩
 have MW:=iG.trans s3
 have D3:=D.same MW
 cases h2:bW cH d2 with
 | false=>exact bw (wy ((if_neg NX).trans (if_pos h2)) _ MW)
 | true=>
 have Rv:¬bW cH d2=false:=by rw[h2];decide
 refine bh ?_
 dsimp only[eG]
 refine⟨_,rfl,v3,d3,aZ,bQ,rfl,D3.e3,D3.f3,.inr (M.Z _),by decide,lF.2.2,fun H4 s4=>⟨_,rfl,?_⟩⟩
 have Aw:=MW.trans s4
 have D4:=D.same Aw
 cases h3:bW bQ d3 with
 | false=>exact bw (wy ((if_neg NX).trans ((if_neg Rv).trans (if_pos h3))) _ Aw)
 | true=>
 have TR:¬bW bQ d3=false:=by rw[h3];decide
 have wy:∀{y:Option Str},zQ d1 d4 d5=y->∀H',ak H H'->Q (uz y) H':=fun e H' sm=>wy ((if_neg NX).trans ((if_neg Rv).trans ((if_neg TR).trans e))) H' sm
 refine bh ?_
 dsimp only[eG]
 refine⟨_,rfl,v4,d4,rfl,D4.e4,fun H5 s5=>⟨_,rfl,?_⟩⟩
 have Hj:=Aw.trans s5
 have D5:=D.same Hj
 cases hd4:oo d4 with
 | false=>exact bw (bw (wy (if_pos (BK hd4)) _ Hj))
 | true=>
 obtain⟨i,rfl⟩:=xE hd4
 have e4:v4 = .int i:=by have:=D.e4;unfold Den at this;exact this
 subst e4
 refine bh ?_
 have nF:¬(2<=i/\i<=8)->zQ d1 (.int i) d5=some "near":=fun h=>if_pos (by
  show(decide (2<=i)&&decide (i<=8))=false
  rw[Bool.and_eq_false_iff]
  by_cases z:2<=i
  ·exact .inr (decide_eq_false fun y=>h ⟨z,y⟩)
  ·exact .inl (decide_eq_false z))
 refine⟨_,rfl,_,_,rfl,rfl,_,rfl,cL (fun c1 =>?_) (fun c1=>⟨_,rfl,bw (wy (nF fun z=>c1 (decide_eq_true z.1)) _ Hj)⟩)⟩
 have c1:2<=i:=of_decide_eq_true c1
 refine⟨_,_,rfl,rfl,_,rfl,?_⟩
 by_cases c2:i<=8
 case neg=>
  rw[decide_eq_false c2]
  exact bw (wy (nF fun z=>c2 z.2) _ Hj)
 rw[decide_eq_true c2]
 refine bh ?_
 dsimp only[eG]
 have wy:∀{y:Option Str},(if Aq d1 (.int i) d5=false then some (Str.ofString "far") else none)=y->∀H',ak H H'->Q (uz y) H':=fun e H' sm=>wy ((if_neg (by
  show ¬(decide (2<=i)&&decide (i<=8))=false
  rw[decide_eq_true c1,decide_eq_true c2];decide)).trans e) H' sm
 refine⟨_,rfl,v5,d5,rfl,D5.e5,fun H6 s6=>⟨_,rfl,?_⟩⟩
 have FC:=Hj.trans s6
 have D6:=D.same FC
 cases C1:oo d5 with
 | false=>exact bw (bw (wy (if_pos (by cases d5<;>first|rfl|cases C1)) _ FC))
 | true=>
 obtain⟨j,rfl⟩:=xE C1
 have e5:v5 = .int j:=by have:=D.e5;unfold Den at this;exact this
 subst e5
 refine bh ?_
 have nG:¬(i<j/\j<=16/\gO (cf (fm d1)) i j=false)->Aq d1 (.int i) (.int j)=false:=fun h=>by
  show(decide (i<j)&&(decide (j<=16) && !gO (cf (fm d1)) i j))=false
  by_cases z:i<j
  ·by_cases y:j<=16
   ·rw[decide_eq_true z,decide_eq_true y]
    cases e:gO (cf (fm d1)) i j with
    | true=>rfl
    | false=>exact absurd ⟨z,y,e⟩ h
   ·rw[decide_eq_true z,decide_eq_false y];rfl
  ·rw[decide_eq_false z];rfl
 refine⟨_,rfl,_,rfl,_,_,rfl,rfl,_,rfl,cL (fun c3 =>?_) (fun c3=>⟨_,rfl,bw (bw (wy (if_pos (nG fun z=>c3 (decide_eq_true z.1))) _ FC))⟩)⟩
 have c3:i<j:=of_decide_eq_true c3
 refine⟨_,_,rfl,rfl,_,rfl,?_⟩
 by_cases c4:j<=16
 case neg=>
  rw[decide_eq_false c4]
  exact bw (bw (wy (if_pos (nG fun z=>c4 z.2.1)) _ FC))
 rw[decide_eq_true c4]
 refine bh ?_
 have bo:cq (fm d1)=true/\((cf (fm d1)).map (·.1)).Perm aG:=by
  have z:=h1
  unfold bW at z
  rw[Jw,Jw] at z
  exact⟨z.1,of_decide_eq_true z.2.1⟩
 obtain⟨eb,_⟩:=rn bo.1
 have pA:=bo.2.length_eq
 rw[Je] at pA
 refine⟨_,rfl,_,rfl,_,rfl,v1,d1,cf (fm d1),i,j,rfl,D6.e1,eb,by rw[pA];decide,D.f1.cd,bo.2.nodup_iff.mpr cI,fun x hx=>bo.2.mem_iff.mpr hx,fun H7 s7=>⟨_,rfl,?_⟩⟩
 have IE:=FC.trans s7
 cases hf:gO (cf (fm d1)) i j with
 | true=>exact bw (wy (if_pos (nG fun z=>by rw[hf] at z;exact absurd z.2.2 (by decide))) _ IE)
 | false=>
  refine bh ?_
  dsimp only[eG]
  refine wy (if_neg ?_) _ IE
  show ¬(decide (i<j)&&(decide (j<=16) && !gO (cf (fm d1)) i j))=false
  rw[decide_eq_true c3,decide_eq_true c4,hf];decide
end
end Z
namespace L2
open PySem
theorem eS (K:Ja){X:Cx}{e:Expr}{f:Str}{pos:Pos}{ta:TE}(he:PE X e ta)(hb:attributeBase e f X.env (eval e X.env)=eval e X.env)(hK:X.K=K:=by rfl):PE X (.Attribute e f pos) (KQ K ta f):=by subst hK;exact Gb he hb
end L2
namespace Z
open PySem L2
structure EY (K:Ja)(CF:Addr):Prop where
 c:Ga K CF
 n1:fW K CF "kinds"
 n2:fW K CF "spots"
 n3:fW K CF "sizes"
 n4:fW K CF "near"
 n5:fW K CF "far"
def gY (K:Ja)(CF:Addr)(H:Hp)(m:Addr)(d1 d2 d3 d4 d5:PyData):Prop:=wL fun(dx:Addr) (w1 w2 w3 w4 w5:V)=>H m=some (.ins CF dx [("kinds",w1),("spots",w2),("sizes",w3),("near",w4),("far",w5)]) /\
 Den K H (gu d1) w1/\Den K H (gu d2) w2/\Den K H (gu d3) w3/\Den K H d4 w4/\Den K H d5 w5
theorem gY.same {K:Ja}{CF:Addr}{H H':Hp}{m:Addr}{d1 d2 d3 d4 d5:PyData}(h:gY K CF H m d1 d2 d3 d4 d5)(s:ak H H'):gY K CF H' m d1 d2 d3 d4 d5:=by
 obtain⟨dx,w1,w2,w3,w4,w5,e,h1,h2,h3,h4,h5⟩:=h
 exact⟨dx,w1,w2,w3,w4,w5,s _ _ e,h1.same s,h2.same s,h3.same s,h4.same s,h5.same s⟩
def Ku (K:Ja)(CF C:Addr):Sp:=fun vs H Q E=>fE fun(H0:Hp) (m:Addr)=>wL fun dx v1 v2 v3 v4 v5=>uR fun d1 d2 d3 d4 d5=>vs=[.ref m,v1,v2,v3,v4,v5]/\ak H0 H/\H0 m=none/\H m=some (.ins CF dx [])/\pq K H0 v1 v2 v3 v4 v5 d1 d2 d3 d4 d5 /\
 (gb d1 d2 d3 d4 d5=none->∀H',ak H0 H'->gY K CF H' m d1 d2 d3 d4 d5->Q .non H') /\
 (∀y,gb d1 d2 d3 d4 d5=some y->∀ex H',ak H0 H'->H' ex=some (.xd [("why",.str y)])->E (.ref C) (some ex) H')
theorem xK {H:Hp}{m:Addr}:ak (oS H m) H:=fun a o e=>by
 by_cases z:a=m
 ·rw[z,fQ] at e;cases e
 ·rw[dJ z] at e;exact e
theorem uu {H H':Hp}{m:Addr}(s:ak H H'):ak (oS H m) (oS H' m):=fun a o e=>by
 by_cases z:a=m
 ·rw[z,fQ] at e;cases e
 ·rw[dJ z] at e ⊢;exact s _ _ e
theorem mN {H:Hp}{m:Addr}{o:HO}:oS (upd H m o) m=oS H m:=by
 funext a
 by_cases z:a=m
 ·rw[z,fQ,fQ]
 ·rw[dJ z,dJ z,ao z]
theorem yd {H0 H:Hp}{m:Addr}(s:ak H0 H)(n:H0 m=none):ak H0 (oS H m):=fun a o e=>by
 rw[dJ (aF e n)];exact s _ _ e
theorem jr {ns:List Str}{d:PyData}(h:bW ns d=true):∃ds,d = .list ds∨d = .tuple ds:=by
 unfold bW at h
 rw[Jw] at h
 cases d with
 | list ds=>exact⟨ds,.inl rfl⟩
 | tuple ds=>exact⟨ds,.inr rfl⟩
 | _=>exact absurd h.1 (by unfold fm cq;exact fun z=>nomatch z)
theorem BU {d1 d2 d3 d4 d5:PyData}(h:gb d1 d2 d3 d4 d5=none):bW aG d1=true/\bW cH d2=true/\bW bQ d3=true:=by
 unfold gb at h
 cases h1:bW aG d1 with
 | false=>rw[if_pos h1] at h;cases h
 | true=>
  rw[if_neg (by rw[h1];decide)] at h
  cases h2:bW cH d2 with
  | false=>rw[if_pos h2] at h;cases h
  | true=>
   rw[if_neg (by rw[h2];decide)] at h
   cases h3:bW bQ d3 with
   | false=>rw[if_pos h3] at h;cases h
   | true=>exact⟨rfl,rfl,rfl⟩
theorem vB {K:Ja}{H:Hp}{m:Addr}{o:HO}{d:PyData}{v:V}{Q:VK}{σ:St}{i:Nat}(hv: σ[i]? = some (some v))(hm:H m=some o)(hd:Den K (oS H m) d v)(hs:∃ds,d = .list ds∨d = .tuple ds)
  (k:∀w H',ak (oS H m) (oS H' m)->H' m=some o->Den K (oS H' m) (gu d) w->Q w H'):MQ (fun xs H Q=>∃p ys,xs=[.ref p]/\((aM K H p ys/\∀l H',gJ H l (.tup ys) H'->Q (.ref l) H')∨(cE K H p ys/\Q (.ref p) H))) (uM (ph i) Ae) σ H Q:=by
 refine⟨_,hv,?_⟩
 obtain⟨ds,rfl|rfl⟩:=hs
 ·unfold Den at hd
  obtain⟨p,us,rfl,hS,hD⟩:=hd
  refine⟨p,us,rfl,.inl ⟨xK.seq hS,fun l H' n =>?_⟩⟩
  have nl:l≠m:=fun z=>by have:=n.nn;rw[z,hm] at this;cases this
  refine k _ _ (uu n.same) (n.same _ _ hm) ?_
  show Den K (oS H' m) (.tuple ds) (.ref l)
  unfold Den
  exact⟨l,us,rfl,cE.of (by rw[dJ nl];exact n.at),hD.same (uu n.same)⟩
 ·have qR:=hd
  unfold Den at qR
  obtain⟨p,us,rfl,hS,hD⟩:=qR
  exact⟨p,us,rfl,.inr ⟨xK.fM hS,k _ _ (ak.refl _) hm hd⟩⟩
section
variable {P:Program}{w:World}{K:Ja}{mg:Str->Option Value}{base:Heap}{f fi:Addr}{fd RC:FuncData}{C CF:Addr}
theorem pE:aR ["self", "why"] ["self", "why"] (av (inClass (top gL) 0)):=⟨rfl,rfl,rfl,by decide +kernel,rfl,by decide +kernel,by decide +kernel⟩
def FP (C:Addr)(f:Str):Sp:=fun vs H Q _=>∃(e:Addr) (v:V),vs=[.ref e,v]/\H e=some (tU e C)/\∀dx,H dx=none->dx≠e->Q .non (upd (upd H e (Aa e C dx)) dx (.xd [(f,v)]))
theorem oW (F:cR K "__init__" "NoForm.__init__" (inClass (top gL) 0) f fd)(S:mq K C "why"):bC P w K mg base gG 1 f fd ["self", "why"] (FP C "why"):=by
 refine F.ok pE (fun vs H Q E h =>?_) (fun dI A outer s H vs Q E hr h =>?_)
 ·obtain⟨e,v,rfl,_⟩:=h
  rfl
 obtain⟨e,v,rfl,he,q⟩:=h
 refine⟨_,(ag (Er (pv 0) (pv 1) rfl)),?_⟩
 exact⟨_,rfl,_,rfl,e,C,rfl,he,S,fun dx h1 h2=>q dx h1 h2⟩
theorem kG:aR ["self", "kinds", "spots", "sizes", "near", "far", "why"] ["self", "kinds", "spots", "sizes", "near", "far"] (av (inClass (top lB) 0)):=⟨rfl,rfl,rfl,by decide +kernel,rfl,by decide +kernel,by decide +kernel⟩
theorem KZ (F:cR K "__init__" "Form.__init__" (inClass (top lB) 0) f fd)(T:Nm mg)(MF:EY K CF)(gR:mg "NoForm" = some (.ref C))(nA:Ld K C fi)(nK:bC P w K mg base gG 1 fi RC ["self", "why"] (FP C "why"))(mX:Binds K RC ["self", "why"] [])(oV:Fn P w K mg base 6 "first_wrong" ["kinds", "spots", "sizes", "near", "far"] (Hz K)):
  bC P w K mg base (uP P w base) 7 f fd ["self", "kinds", "spots", "sizes", "near", "far"] (Ku K CF C):=by
 refine F.R6 kG (fun vs H Q E h =>?_) (fun dI A outer s H vs Q E hr h =>?_)
 ·obtain⟨H0,m,dx,v1,v2,v3,v4,v5,d1,d2,d3,d4,d5,rfl,_⟩:=h
  rfl
 obtain⟨H0,m,dx,v1,v2,v3,v4,v5,d1,d2,d3,d4,d5,rfl,sm,nm,hm,D,qY,qN⟩:=h
 have cY:=hr.units
 refine⟨_,(af (aL (i:=6) kG.nd rfl (Or.inl rfl) (aO (oV.mono (by decide)) hr rfl (aa (pv 1) (aa (pv 2) (aa (pv 3) (aa (pv 4) (aa (pv 5) ae)))))))
  (af (aX (aK qD (pv 6) cJ (aH _)) (ag (Ag (k:=1) nA nK (hr.mono (by decide)) rfl gR mX (aa (pv 6) ae))) aN)
  (af (nY (pv 0) (ba (gz K) rfl T.n_tuple (by rfl) (aa (pv 1) ae)) rfl)
  (af (nY (pv 0) (ba (gz K) rfl T.n_tuple (by rfl) (aa (pv 2) ae)) rfl)
  (af (nY (pv 0) (ba (gz K) rfl T.n_tuple (by rfl) (aa (pv 3) ae)) rfl)
  (af (nY (pv 0) (pv 4) rfl)
  (ag (nY (pv 0) (pv 5) rfl)))))))),?_⟩
 have nb:∀{Hx:Hp} {a:Addr},ak H Hx->Hx a=none->H a=none:=fun{Hx a} s h=>by
  cases e:H a with
  | none=>rfl
  | some o=>rw[s _ _ e] at h;cases h
 refine⟨_,rfl,_,rfl,_,rfl,_,rfl,_,rfl,v1,v2,v3,v4,v5,d1,d2,d3,d4,d5,rfl,D.same sm,fun H1 s1=>gn ?_⟩
 have Pt:=sm.trans s1
 refine⟨_,rfl,.inl ⟨rfl,?_⟩⟩
 cases hw:gb d1 d2 d3 d4 d5 with
 | some y=>
  refine⟨_,rfl,bw ?_⟩
  refine⟨_,rfl,by show 1<=1000;decide,fun e he=>⟨e,.str y,rfl,aq,fun dx c1 c2=>⟨rfl,e,dx,rfl,?_,nb s1 he,?_⟩⟩⟩
  ·rw[ao (Ne.symm c2),aq]
  ·refine qN y hw dx _ (fun a o z =>?_) ?_
   ·have z1:=Pt _ _ z
    have na:a≠e:=aF z1 he
    have nd:a≠dx:=fun y=>by
     rw[ao c2,<-y,z1] at c1
     cases c1
    rw[dJ na,ao nd,ao na,ao na]
    exact z1
   ·rw[dJ c2,aq]
 | none=>
  refine⟨_,rfl,bh ?_⟩
  obtain⟨o1,o2,o3⟩:=BU hw
  have D1:=D.same (yd Pt nm)
  dsimp only[eG]
  unfold EC JV
  dsimp only
  refine vB (by rfl) (s1 _ _ hm) D1.e1 (jr o1) fun w1 H2 s2 m2 t1 =>?_
  refine⟨_,rfl,m,CF,dx,_,rfl,m2,MF.c,MF.n1,by show 0<1000;decide,?_⟩
  refine vB (by rfl) aq (mN▸D1.e2.same s2) (jr o2) fun w2 H3 s3 m3 t2 =>?_
  rw[mN] at s3
  refine⟨_,rfl,m,CF,dx,_,rfl,m3,MF.c,MF.n2,by show 1<1000;decide,?_⟩
  refine vB (by rfl) aq (mN▸D1.e3.same (s2.trans s3)) (jr o3) fun w3 H4 s4 m4 t3 =>?_
  rw[mN] at s4
  refine⟨_,rfl,m,CF,dx,_,rfl,m4,MF.c,MF.n3,by show 2<1000;decide,?_⟩
  refine⟨_,rfl,_,rfl,m,CF,dx,_,rfl,aq,MF.c,MF.n4,by show 3<1000;decide,?_⟩
  refine⟨_,rfl,_,rfl,m,CF,dx,_,rfl,aq,MF.c,MF.n5,by show 4<1000;decide,?_⟩
  have Aw:=s2.trans (s3.trans s4)
  have fin:∀{Hx:Hp},ak (oS Hx m) (oS H4 m)->∀{o p q:HO},ak (oS Hx m) (upd (upd (upd H4 m o) m p) m q):=fun{Hx} h {o p q}=>h.trans fun a u e=>by
   have na:a≠m:=fun y=>by rw[y,fQ] at e;cases e
   rw[dJ na] at e
   rw[ao na,ao na,ao na]
   exact e
  refine qY hw _ ?_ ⟨dx,w1,w2,w3,v4,v5,?_,?_,?_,?_,?_,?_⟩
  ·exact fun a o e=>by
    have z:=((yd Pt nm).trans Aw) _ _ e
    have na:a≠m:=fun y=>by rw[y,nm] at e;cases e
    rw[dJ na] at z
    rw[ao na,ao na,ao na]
    exact z
  ·exact aq
  ·exact t1.same (fin (s3.trans s4))
  ·exact t2.same (fin s4)
  ·exact t3.same (fin (ak.refl _))
  ·exact D1.e4.same (fin Aw)
  ·exact D1.e5.same (fin Aw)
end
theorem Pr {x:Str}{A B:Prop}(q:A):if decide (V.str x=V.str x)=true then A else B:=by
 rw[decide_eq_true rfl];exact bw q
theorem OS {x y:Str}{A B:Prop}(q:B)(h:(x==y)=false:=by decide +kernel):if decide (V.str x=V.str y)=true then A else B:=by
 rw[decide_eq_false (fun z=>by injection z with z;rw[z,beq_self_eq_true] at h;cases h)];exact bh q
noncomputable def kB (d1 d2 d3 d4 d5:PyData):PyData:=match gb d1 d2 d3 d4 d5 with
 | none =>.list [gu d1,gu d2,gu d3,d4,d5]
 | some y =>.tuple [.str "form",.str y]
def DC (K:Ja)(CF C:Addr):Sp:=fun vs H Q E=>wL fun(lp:Addr) v1 v2 v3 v4 v5=>uR fun d1 d2 d3 d4 d5=>vs=[.ref lp]/\aM K H lp [v1,v2,v3,v4,v5]/\pq K H v1 v2 v3 v4 v5 d1 d2 d3 d4 d5 /\
 (gb d1 d2 d3 d4 d5=none->∀m H',ak H H'->H m=none->gY K CF H' m d1 d2 d3 d4 d5->Q (.ref m) H') /\
 (∀y,gb d1 d2 d3 d4 d5=some y->∀ex H',ak H H'->H' ex=some (.xd [("why",.str y)])->E (.ref C) (some ex) H')
def CV (K:Ja)(C:Addr):Sp:=fun vs H Q _=>∃(e dx:Addr) (y:Str),vs=[.ref e]/\H e=some (kn e (.ref C) (some dx))/\H dx=some (.xd [("why",.str y)])/\∀v H',ak H H'->Den K H' (.tuple [.str "form",.str y]) v->Q v H'
def u7 (K:Ja):Sp:=fun vs H Q _=>wL fun(lp:Addr) v1 v2 v3 v4 v5=>uR fun d1 d2 d3 d4 d5=>vs=[.ref lp]/\aM K H lp [v1,v2,v3,v4,v5]/\pq K H v1 v2 v3 v4 v5 d1 d2 d3 d4 d5/\∀v H',ak H H'->Den K H' (kB d1 d2 d3 d4 d5) v->Q v H'
section
variable {P:Program}{w:World}{K:Ja}{mg:Str->Option Value}{base:Heap}{f:Addr}{fd:FuncData}{C CF cO c1 c2 c3 c4 c5 c6 c7 gi:Addr}{RI:FuncData}
theorem uN:aR ["_law_parts_here"] ["_law_parts_here"] (av (top jL)):=⟨rfl,rfl,rfl,by decide +kernel,rfl,by decide +kernel,by decide +kernel⟩
theorem Kj (F:cR K "_law_form" "_law_form" (top jL) f fd)(T:Nm mg)(EB:Mk K CF gi)(vU:mg "Form" = some (.ref CF))(Dl:bC P w K mg base (uP P w base) 7 gi RI ["self", "kinds", "spots", "sizes", "near", "far"] (Ku K CF C))(E4:Binds K RI ["self", "kinds", "spots", "sizes", "near", "far"] []):
  bC P w K mg base (uP P w base) 9 f fd ["_law_parts_here"] (DC K CF C):=by
 refine F.R6 uN (fun vs H Q E h =>?_) (fun dI A outer s H vs Q E hr h =>?_)
 ·obtain⟨lp,v1,v2,v3,v4,v5,d1,d2,d3,d4,d5,rfl,_⟩:=h
  rfl
 obtain⟨lp,v1,v2,v3,v4,v5,d1,d2,d3,d4,d5,rfl,hl,D,qY,qN⟩:=h
 have cY:=hr.units
 refine⟨_,(ag (aB (DW EB (Dl.mono (by first|decide|exact Jd _)) (hr.mono (by first|decide|exact Jd _)) rfl vU E4 .nil (zm (E':=E) fun _ _ _ z=>z) (aa (aV (eB K) (pv 0) ah (fun _ _=>rfl)) (aa (aV (eB K) (pv 0) ah (fun _ _=>rfl)) (aa (aV (eB K) (pv 0) ah (fun _ _=>rfl)) (aa (aV (eB K) (pv 0) ah (fun _ _=>rfl)) (aa (aV (eB K) (pv 0) ah (fun _ _=>rfl)) ae)))))))),?_⟩
 have ix:∀{i:Int} {v:V},([v1,v2,v3,v4,v5]:List V)[i.toNat]? = some v->True:=fun _=>trivial
 refine⟨_,rfl,.inl ⟨lp,_,_,v1,rfl,rfl,hl,rfl,_,rfl,.inl ⟨lp,_,_,v2,rfl,rfl,hl,rfl,_,rfl,.inl ⟨lp,_,_,v3,rfl,rfl,hl,rfl,_,rfl,.inl ⟨lp,_,_,v4,rfl,rfl,hl,rfl,_,rfl,.inl ⟨lp,_,_,v5,rfl,rfl,hl,rfl,fun x dx hx hdx ne =>?_⟩⟩⟩⟩⟩⟩
 refine⟨H,x,dx,v1,v2,v3,v4,v5,d1,d2,d3,d4,d5,rfl,(bV hdx _).trans (bV (by rw[ao (Ne.symm ne)];exact hx) _),hx,aq,D,fun e H' s fo=>⟨rfl,qY e x H' s hx fo⟩,qN⟩
theorem dS:aR ["_law_caught", "_law_told_here", "_law_word"] ["_law_caught"] (av (top ja)):=⟨rfl,rfl,rfl,by decide +kernel,rfl,by decide +kernel,by decide +kernel⟩
theorem Gp (F:cR K "_law_class" "_law_class" (top ja) f fd)(T:Nm mg)(hU:mg "ValueError" = none)(eP:mg "OddError" = some (.ref cO))(gR:mg "NoForm" = some (.ref C))(lj:mg "BadText" = some (.ref c1))(nN:mg "BadRow" = some (.ref c2))(oJ:mg "NoName" = some (.ref c3))(lU:mg "NoPlace" = some (.ref c4))(jN:mg "NoTarget" = some (.ref c5))(nj:mg "TooFar" = some (.ref c6))(lz:mg "TooFull" = some (.ref c7))
  (O:iM K C) (S:mq K C "why") (kO:∀D∈[c1,c2,c3,c4,c5,c6,c7],Uh K (.ref C) (.ref D)=some false) (kV:Uh K (.ref C) (.type "ValueError")=some true) (kD:Uh K (.ref C) (.ref cO)=some true) :
  bC P w K mg base gG 1 f fd ["_law_caught"] (CV K C):=by
 refine F.ok dS (fun vs H Q E h =>?_) (fun dI A outer s H vs Q E hr h =>?_)
 ·obtain⟨e,dx,y,rfl,_⟩:=h
  rfl
 obtain⟨e,dx,y,rfl,h0,C7,q⟩:=h
 have cY:=hr.units
 have kk:∀{D:Addr},D∈[c1,c2,c3,c4,c5,c6,c7]->Uh K (.ref C) (.ref D)=some false:=fun h=>kO _ h
 refine⟨_,(af (aL (i:=1) dS.nd rfl (Or.inl rfl) (eY (aa (ai (oY K) rfl T.n_isinstance (by rfl) (aa (pv 0) (aa (dh rfl lz) ae))) (aa (ai (oY K) rfl T.n_isinstance (by rfl) (aa (pv 0) (aa (dh rfl lU) ae))) (aa (ai (oY K) rfl T.n_isinstance (by rfl) (aa (pv 0) (aa (dh rfl oJ) ae))) ae)))))
  (af (aL (i:=1) dS.nd rfl (Or.inl rfl) (aQ cp (pv 1) (eY (aa (ai (oY K) rfl T.n_isinstance (by rfl) (aa (pv 0) (aa (dh rfl lj) ae))) (aa (ai (oY K) rfl T.n_isinstance (by rfl) (aa (pv 0) (aa (dh rfl gR) ae))) (aa (ai (oY K) rfl T.n_isinstance (by rfl) (aa (pv 0) (aa (dh rfl nj) ae))) ae))))))
  (af (aL (i:=1) dS.nd rfl (Or.inl rfl) (aQ cp (pv 1) (eY (aa (ai (oY K) rfl T.n_isinstance (by rfl) (aa (pv 0) (aa (dh rfl jN) ae))) (aa (ai (oY K) rfl T.n_isinstance (by rfl) (aa (pv 0) (aa (dh rfl nN) ae))) ae)))))
  (af (aX (PW.pt (gh (aK (zj K cY) (yN K PySem.F.plainAttrs_list PySem.F.slot_list_count PySem.F.type_list_count Hw (pv 1) (aa fG ae)) ah (aH _)) (gh (bT (br (ai (oY K) rfl T.n_isinstance (by rfl) (aa (pv 0) (aa (dh rfl eP) ae))))) (fq (bT (br (ai (oY K) rfl T.n_isinstance (by rfl) (aa (pv 0) (aa (aY rfl hU (by rfl) (v := .ty "ValueError") rfl) ae))))))))) (ag (aB (fN (aa aD (aa cJ ae))))) aN)
  (af (aL (i:=2) dS.nd rfl (Or.inl rfl) (aV (eB K) (yN K PySem.F.plainAttrs_str PySem.F.slot_str_split PySem.F.type_str_split wO aD (aa aD ae)) (yN K PySem.F.plainAttrs_list PySem.F.slot_list_index PySem.F.type_list_index Il (pv 1) (aa fG ae)) (fun _ _=>rfl)))
  (af (aX (aK (jM K cY) (pv 2) aD (aH _)) (ag (aB (fN (aa (pv 2) (aa (oC K (pv 0)) ae))))) aN)
  (af (aX (aK (jM K cY) (pv 2) aD (aH _)) (ag (aB (fN (aa (pv 2) (aa (oC K (pv 0)) ae))))) aN)
  (ag (aB (fN (aa (pv 2) (aa (fV (aK (jM K cY) (pv 2) aD (aH _)) (oC K (pv 0)) cJ) ae)))))))))))),?_⟩
 refine⟨_,rfl,e,C,some dx,_,_,false,rfl,h0,O,rfl,kk (by simp),_,rfl,e,C,some dx,_,_,false,rfl,h0,O,rfl,kk (by simp),_,rfl,e,C,some dx,_,_,false,rfl,h0,O,rfl,kk (by simp),by show 3<=sizeLine;decide,fun l1 H2 n2=>gn ?_⟩
 have h2:=n2.same _ _ h0
 refine⟨_,rfl,_,rfl,e,C,some dx,_,_,false,rfl,h2,O,rfl,kk (by simp),_,rfl,e,C,some dx,_,_,true,rfl,h2,O,rfl,CC,_,rfl,e,C,some dx,_,_,false,rfl,h2,O,rfl,kk (by simp),by show 3<=sizeLine;decide,fun l2 H3 n3 =>?_⟩
 have h3:=n3.same _ _ h2
 refine .inr (.inr ⟨l1,l2,_,_,rfl,rfl,n3.same _ _ n2.at,n3.at,by show 6<=sizeLine;decide,fun l3 H4 n4=>gn ?_⟩)
 have h4:=n4.same _ _ h3
 refine⟨_,rfl,_,rfl,e,C,some dx,_,_,false,rfl,h4,O,rfl,kk (by simp),_,rfl,e,C,some dx,_,_,false,rfl,h4,O,rfl,kk (by simp),by show 2<=sizeLine;decide,fun l4 H5 n5 =>?_⟩
 have h5:=n5.same _ _ h4
 refine .inr (.inr ⟨l3,l4,_,_,rfl,rfl,n5.same _ _ n4.at,n5.at,by show 8<=sizeLine;decide,fun l5 H6 n6=>gn ?_⟩)
 have h6:=n6.same _ _ h5
 have s6:ak H H6:=n2.same.trans (n3.same.trans (n4.same.trans (n5.same.trans n6.same)))
 have UQ:=s6 _ _ C7
 refine⟨_,rfl,.inl ⟨rfl,_,aM.of n6.at⟩,l5,[false,false,false,false,true,false,false,false],rfl,rfl,n6.at,.inl ⟨rfl,_,rfl,bh ?_⟩⟩
 refine⟨_,rfl,e,C,some dx,_,_,true,rfl,h6,O,rfl,kD,_,rfl,bh ⟨_,rfl,e,C,some dx,_,_,true,rfl,h6,O,rfl,kV,_,rfl,bh ?_⟩⟩
 dsimp only[eG]
 have FV:Txt.split (Str.ofString "full place name text form far target row") (Str.ofString " ")=(["full", "place", "name", "text", "form", "far", "target", "row"]:List Str):=by decide +kernel
 have sl:(Str.ofString " ").length≠0:=by decide +kernel
 refine⟨rfl,_,_,rfl,rfl,sl,by decide +kernel,by rw[FV];decide,fun p H7 n7 =>?_⟩
 rw[FV] at n7
 refine⟨_,rfl,.inl ⟨rfl,_,aM.of (n7.same _ _ n6.at)⟩,l5,[false,false,false,false,true,false,false,false],4,rfl,rfl,n7.same _ _ n6.at,rfl,fun m hm =>?_,?_⟩
 ·match m,hm with
  | 0,_=>exact fun z=>nomatch z
  | 1,_=>exact fun z=>nomatch z
  | 2,_=>exact fun z=>nomatch z
  | 3,_=>exact fun z=>nomatch z
 refine .inl ⟨p,_,_,.str "form",rfl,rfl,aM.of n7.at,rfl,gn ?_⟩
 have h7:=n7.same _ _ h6
 have Vx:=n7.same _ _ UQ
 refine⟨_,rfl,.inl ⟨rfl,_,rfl,OS ?_⟩⟩
 refine⟨_,rfl,.inl ⟨rfl,_,rfl,Pr ?_⟩⟩
 refine⟨_,rfl,_,rfl,e,C,dx,_,.str y,rfl,h7,Vx,rfl,O,S,.inr ⟨_,rfl⟩,by show 2<=sizeLine;decide,fun tq H8 n8=>q _ H8 (s6.trans (n7.same.trans n8.same)) ?_⟩
 exact jC n8.at (aE iy (aE iy er))
theorem dM:aR ["_law_parts_here", "_law_form_here", "_law_caught", "error"] ["_law_parts_here"] (av (top j0)):=⟨rfl,rfl,rfl,by decide +kernel,rfl,by decide +kernel,by decide +kernel⟩
theorem Ey (F:cR K "_law_told" "_law_told" (top j0) f fd)(T:Nm mg)(MF:EY K CF)(eP:mg "OddError" = some (.ref cO))(NI:PySem.W.exmOne K (.ref C) (.ref cO)=some true)(jE:E1 P w K mg base 9 "_law_form" ["_law_parts_here"] (DC K CF C))(sD:Fn P w K mg base 1 "_law_class" ["_law_caught"] (CV K C)):
  bC P w K mg base gG 10 f fd ["_law_parts_here"] (u7 K):=by
 refine F.ok dM (fun vs H Q E h =>?_) (fun dI A outer s H vs Q E hr h =>?_)
 ·obtain⟨lp,v1,v2,v3,v4,v5,d1,d2,d3,d4,d5,rfl,_⟩:=h
  rfl
 obtain⟨lp,v1,v2,v3,v4,v5,d1,d2,d3,d4,d5,rfl,hl,D,q⟩:=h
 have cY:=hr.units
 refine⟨_,(af (fP (fN (aa cJ (aa cJ ae))) (tupK K 2 rfl (bb (aU (i:=1) dM.nd rfl (Or.inl rfl)) (bb (aU (i:=2) dM.nd rfl (Or.inl rfl)) dB))))
  (af (Ek (j:=3) rfl rfl dM.nd rfl rfl rfl eP (fun _ _ _=>(ag (aL (i:=1) dM.nd rfl (Or.inl rfl) (HW (jE.mono (by first|decide|exact Jd _|omega)) hr rfl (aa (pv 0) ae))))) (fun _=>(ag (aL (i:=2) dM.nd rfl (Or.inl rfl) (pv 3)))))
  (af (aX (aK qD (pv 2) cJ (aH _)) (ag (aB (aO (sD.mono (by decide)) hr rfl (aa (pv 2) ae)))) aN)
  (ag (aB (eY (aa (eS K (pv 1) rfl) (aa (eS K (pv 1) rfl) (aa (eS K (pv 1) rfl) (aa (eS K (pv 1) rfl) (aa (eS K (pv 1) rfl) ae))))))))))),?_⟩
 refine⟨by show 2<=sizeLine;decide,fun t0 H0 n0=>⟨t0,_,rfl,cE.of n0.at,rfl,_,_,rfl,_,_,rfl,rfl,?_⟩⟩
 dsimp only
 have C4:=n0.same.seq hl
 have D0:=D.same n0.same
 refine dP (t:=FN _ _ _ _ _) (fun σ H'=>(∃m:Addr,σ=[some (.ref lp),some (.ref m),some .non,none]/\gb d1 d2 d3 d4 d5=none/\ak H0 H'/\gY K CF H' m d1 d2 d3 d4 d5)∨(∃(e dx:Addr) (y:Str),σ=[some (.ref lp),some .non,some (.ref e),none]/\gb d1 d2 d3 d4 d5=some y/\ak H0 H'/\H' e=some (kn e (.ref C) (some dx))/\H' dx=some (.xd [("why",.str y)]))) (fun Nx nx =>?_) ?_
 ·refine⟨fun cls d H'=>∃(dx:Addr) (y:Str),cls = .ref C/\d=some dx/\gb d1 d2 d3 d4 d5=some y/\ak H0 H'/\H' dx=some (.xd [("why",.str y)]),?_,?_⟩
  ·refine⟨rfl,_,rfl,lp,v1,v2,v3,v4,v5,d1,d2,d3,d4,d5,rfl,C4,D0,fun hn m H' s' _ fo=>gn (nx _ _ (.inl ⟨m,rfl,hn,s',fo⟩)),fun y hy dx H' s' hx=>⟨dx,y,rfl,rfl,hy,s',hx⟩⟩
  ·rintro cls d H' ⟨dx,y,rfl,rfl,hb,sm,hx⟩
   refine⟨NI,fun e he =>?_⟩
   have C7:upd H' e (kn e (.ref C) (some dx)) dx=some (.xd [("why",.str y)]):=by rw[ao (aF hx he)];exact hx
   exact⟨_,rfl,gn (nx _ _ (.inr ⟨e,dx,y,rfl,hb,sm.trans (bV he _),aq,C7⟩))⟩
 ·rintro σ H1 (⟨m,rfl,he,s1,fo⟩|⟨e,dx,y,rfl,he,s1,h0,C7⟩)
  ·obtain⟨dx,w1,w2,w3,w4,w5,ho,g1,g2,g3,g4,g5⟩:=fo
   refine⟨_,rfl,.inl ⟨rfl,_,rfl,bh ?_⟩⟩
   dsimp only[eG]
   refine⟨_,rfl,m,CF,dx,_,_,rfl,ho,MF.c,MF.n1,rfl,_,rfl,m,CF,dx,_,_,rfl,ho,MF.c,MF.n2,rfl,_,rfl,m,CF,dx,_,_,rfl,ho,MF.c,MF.n3,rfl,_,rfl,m,CF,dx,_,_,rfl,ho,MF.c,MF.n4,rfl,_,rfl,m,CF,dx,_,_,rfl,ho,MF.c,MF.n5,rfl,by show 5<=sizeLine;decide,fun l H2 n2 =>?_⟩
   have s2:=s1.trans n2.same
   refine q _ H2 (n0.same.trans s2) ?_
   unfold kB
   rw[he]
   have s3:=n2.same
   exact l7 n2.at (aE (g1.same s3) (aE (g2.same s3) (aE (g3.same s3) (aE (g4.same s3) (aE (g5.same s3) er)))))
  ·refine⟨_,rfl,.inl ⟨rfl,_,rfl,bw ?_⟩⟩
   refine⟨_,rfl,e,dx,y,rfl,h0,C7,fun v H' s2 hd=>q _ H' (n0.same.trans (s1.trans s2)) ?_⟩
   unfold kB
   rw[he]
   exact hd
end
def qG (K:Ja)(n:Nat):Sp:=fun vs H Q _=>mI fun(v1 v2:V) (d:PyData)=>vs=[v1,v2]/\Den K H d v1/\Den K H d v2/\d.depth<n/\d.weight<=1000000/\∀H',ak H H'->Q (.bl true) H'
section
variable {P:Program}{w:World}{K:Ja}{mg:Str->Option Value}{base:Heap}{f:Addr}{fd:FuncData}
theorem sT:aR ["_law_found", "_law_due_here"] ["_law_found", "_law_due_here"] (av (top jI)):=⟨rfl,rfl,rfl,by decide +kernel,rfl,by decide +kernel,by decide +kernel⟩
theorem De {n:Nat}(F:cR K "_law_same" "_law_same" (top jI) f fd)(T:Nm mg)(hX:Fn P w K mg base n "_law_same" ["_law_found", "_law_due_here"] (qG K n)):bC P w K mg base gG (n+1) f fd ["_law_found", "_law_due_here"] (qG K (n+1)):=by
 refine F.ok sT (fun vs H Q E h =>?_) (fun dI A outer s H vs Q E hr h =>?_)
 ·obtain⟨v1,v2,d,rfl,_⟩:=h
  rfl
 obtain⟨v1,v2,d,rfl,d1,d2,hn,hw,q⟩:=h
 have cY:=hr.units
 refine⟨_,(af (aX (aK DU (pv 1) cJ (aH _)) (ag (aB (cQ DU (pv 0) cJ (aH _)))) aN)
  (af (aX (br (ai (eV K) rfl T.n_isinstance (by rfl) (aa (pv 1) (aa (aY rfl T.n_bool (by rfl) (v := .ty "bool") rfl) ae)))) (ag (aB (dY (ai (eV K) rfl T.n_isinstance (by rfl) (aa (pv 0) (aa (aY rfl T.n_bool (by rfl) (v := .ty "bool") rfl) ae))) (iL (cQ (jM K cY) (pv 0) (pv 1) (aH _)))))) aN)
  (af (aX (br (ai (Ck K) rfl T.n_isinstance (by rfl) (aa (pv 1) (aa (fN (aa (aY rfl T.n_list (by rfl) (v := .ty "list") rfl) (aa (aY rfl T.n_tuple (by rfl) (v := .ty "tuple") rfl) ae))) ae)))) (af (aX (PW.pt (gh (aK (zj K cY) (ai (eV K) rfl T.n_isinstance (by rfl) (aa (pv 0) (aa (aY rfl T.n_list (by rfl) (v := .ty "list") rfl) ae))) (ai (eV K) rfl T.n_isinstance (by rfl) (aa (pv 1) (aa (aY rfl T.n_list (by rfl) (v := .ty "list") rfl) ae))) (aH _)) (fq (aK (zj K cY) (ai (eV K) rfl T.n_isinstance (by rfl) (aa (pv 0) (aa (aY rfl T.n_tuple (by rfl) (v := .ty "tuple") rfl) ae))) (ai (eV K) rfl T.n_isinstance (by rfl) (aa (pv 1) (aa (aY rfl T.n_tuple (by rfl) (v := .ty "tuple") rfl) ae))) (aH _))))) (ag (aB fG)) aN)
  (af (aX (aK (zj K cY) (ai (dQ K) rfl T.n_len (by rfl) (aa (pv 0) ae)) (ai (dQ K) rfl T.n_len (by rfl) (aa (pv 1) ae)) (aH _)) (ag (aB fG)) aN)
  (ag (aB (ai (DE K rfl) rfl T.n_all (by rfl) (aa (cW rfl (cP (Nc:=["_law_one", "_law_other_here"]) (Fc:=[]) (js:=[])) (xj K rfl T.n_zip (aa (pv 0) (aa (pv 1) ae))) (ra (eW (cc (i:=0) (n:=2) (by decide)) (eW (cc (i:=1) (n:=2) (by decide)) mG dC gm) dC (km dC gm))) (fun _ _ _ _ _=>(tupK K 2 rfl (bb (aU (i:=0) (rY ["_law_one", "_law_other_here"]) rfl (Or.inl rfl)) (bb (aU (i:=1) (rY ["_law_one", "_law_other_here"]) rfl (Or.inl rfl)) dB)))) (fun _ _ _ _ _=>di) (fun _ _ _ _ _=>(aO (hX.mono (by first|decide|exact Jd _|omega)) hr rfl (aa (pv 0) (aa (pv 1) ae))))) ae)))))) aN)
  (af (aX (br (ai (eV K) rfl T.n_isinstance (by rfl) (aa (pv 1) (aa (aY rfl T.n_str (by rfl) (v := .ty "str") rfl) ae)))) (ag (aB (dY (ai (eV K) rfl T.n_isinstance (by rfl) (aa (pv 0) (aa (aY rfl T.n_str (by rfl) (v := .ty "str") rfl) ae))) (iL (cQ (jM K cY) (pv 0) (pv 1) (aH _)))))) aN)
  (ag (aB (dY (ai (eV K) rfl T.n_isinstance (by rfl) (aa (pv 0) (aa (aY rfl T.n_int (by rfl) (v := .ty "int") rfl) ae))) (dY (vt (ai (eV K) rfl T.n_isinstance (by rfl) (aa (pv 0) (aa (aY rfl T.n_bool (by rfl) (v := .ty "bool") rfl) ae)))) (iL (cQ (jM K cY) (pv 0) (pv 1) (aH _))))))))))),?_⟩
 cases d with
 | none=>
  have Cj:=d1
  have Bv:=d2
  unfold Den at Cj Bv
  subst Cj Bv
  exact⟨_,rfl,.inl ⟨rfl,_,rfl,bw ⟨_,rfl,.inl ⟨rfl,q H (ak.refl _)⟩⟩⟩⟩
 | bool b=>
  have Cj:=d1
  have Bv:=d2
  unfold Den at Cj Bv
  subst Cj Bv
  refine⟨_,rfl,.inl ⟨rfl,_,rfl,bh ?_⟩⟩
  refine⟨_,rfl,.inl ⟨_, "bool",.bool b,true,rfl,d2,rfl,_,rfl,bw ?_⟩⟩
  refine⟨_,rfl,.inl ⟨_, "bool",.bool b,true,rfl,d1,rfl,_,rfl,bw ⟨_,rfl,_,rfl,.inl ⟨rfl,?_⟩⟩⟩⟩
  rw[decide_eq_true rfl]
  exact q H (ak.refl _)
 | int i=>
  have Cj:=d1
  have Bv:=d2
  unfold Den at Cj Bv
  subst Cj Bv
  refine⟨_,rfl,.inl ⟨rfl,_,rfl,bh ?_⟩⟩
  refine⟨_,rfl,.inl ⟨_, "bool",.int i,false,rfl,d2,rfl,_,rfl,bh ?_⟩⟩
  refine⟨_,rfl,by show 2<=sizeLine;decide,fun p H1 n1=>⟨_,p,["list", "tuple"],.int i,false,rfl,n1.at,d2,rfl,_,rfl,bh ?_⟩⟩
  refine⟨_,rfl,.inl ⟨_, "str",.int i,false,rfl,d2,rfl,_,rfl,bh ?_⟩⟩
  refine⟨_,rfl,.inl ⟨_, "int",.int i,true,rfl,d1,rfl,_,rfl,bw ⟨_,rfl,.inl ⟨_, "bool",.int i,false,rfl,d1,rfl,_,rfl,_,rfl,bw ⟨_,rfl,_,rfl,.inl ⟨rfl,?_⟩⟩⟩⟩⟩⟩
  rw[decide_eq_true rfl]
  exact q H1 n1.same
 | str x=>
  have Cj:=d1
  have Bv:=d2
  unfold Den at Cj Bv
  subst Cj Bv
  refine⟨_,rfl,.inl ⟨rfl,_,rfl,bh ?_⟩⟩
  refine⟨_,rfl,.inl ⟨_, "bool",.str x,false,rfl,d2,rfl,_,rfl,bh ?_⟩⟩
  refine⟨_,rfl,by show 2<=sizeLine;decide,fun p H1 n1=>⟨_,p,["list", "tuple"],.str x,false,rfl,n1.at,d2,rfl,_,rfl,bh ?_⟩⟩
  refine⟨_,rfl,.inl ⟨_, "str",.str x,true,rfl,d2,rfl,_,rfl,bw ?_⟩⟩
  refine⟨_,rfl,.inl ⟨_, "str",.str x,true,rfl,d1,rfl,_,rfl,bw ⟨_,rfl,_,rfl,.inl ⟨rfl,?_⟩⟩⟩⟩
  rw[decide_eq_true rfl]
  exact q H1 n1.same
 | list ds=>
  have e1:=d1
  have e2:=d2
  unfold Den at e1 e2
  obtain⟨a1,vs1,rfl,s1,ds1⟩:=e1
  obtain⟨a2,vs2,rfl,s2,ds2⟩:=e2
  simp only[PyData.depth] at hn
  simp only[PyData.weight] at hw
  have Rm:=eK ds
  refine⟨_,rfl,.inl ⟨rfl,_,rfl,bh ?_⟩⟩
  refine⟨_,rfl,.inl ⟨_, "bool",.list ds,false,rfl,d2,rfl,_,rfl,bh ?_⟩⟩
  refine⟨_,rfl,by show 2<=sizeLine;decide,fun p H1 n1=>⟨_,p,["list", "tuple"],.list ds,true,rfl,n1.at,d2.same n1.same,rfl,_,rfl,bw ?_⟩⟩
  have b1:=d1.same n1.same
  have b2:=d2.same n1.same
  refine⟨_,rfl,.inl ⟨_, "list",.list ds,true,rfl,b1,rfl,_,rfl,.inl ⟨_, "list",.list ds,true,rfl,b2,rfl,.inl ⟨rfl,_,rfl,bh ?_⟩⟩⟩⟩
  refine⟨_,rfl,.inl ⟨_, "tuple",.list ds,false,rfl,b1,rfl,_,rfl,.inl ⟨_, "tuple",.list ds,false,rfl,b2,rfl,.inl ⟨rfl,_,rfl,bh ?_⟩⟩⟩⟩
  refine⟨_,rfl,_,_,rfl,.inl ⟨vs1,n1.same.seq s1,rfl⟩,_,rfl,_,_,rfl,.inl ⟨vs2,n1.same.seq s2,rfl⟩,.inl ⟨rfl,_,rfl,?_⟩⟩
  rw[decide_eq_true (show V.int (vs1.length:Nat)=V.int (vs2.length:Nat) by rw[ds1.len,ds2.len])]
  refine bh ?_
  refine⟨_,rfl,_,rfl,false,false,a1,a2,rfl,⟨_,n1.same.seq s1⟩,⟨_,n1.same.seq s2⟩,?_⟩
  refine dj (N:=ds.length) (fun i ys H'=>ak H1 H'/\ys=(Jv i true).map V.bl) ⟨ak.refl _,rfl⟩ ?_ ?_
  ·rintro i ys H2 Nx hi ⟨sm,rfl⟩ nx
   have iC:=n1.same.trans sm
   obtain⟨x,hx,dx⟩:=ds1.get (i:=i) (d:=ds[i]) (Jc hi)
   obtain⟨y,hy,dy⟩:=ds2.get (i:=i) (d:=ds[i]) (Jc hi)
   have q1:kU false K H2 a1 vs1:=iC.seq s1
   have q2:kU false K H2 a2 vs2:=iC.seq s2
   refine⟨⟨_,_,_,_,q1,q2,hx,hy⟩,by rw[Je,U4];exact Jn (show i<10000000 by omega) (by decide),?_⟩
   rintro x' H3 ⟨T',rfl,hN⟩
   have n3:=hN _ _ _ _ q1 q2 hx hy
   refine⟨T',_,rfl,cE.of n3.at,rfl,_,_,rfl,_,_,rfl,rfl,?_⟩
   have FT:=iC.trans n3.same
   refine⟨_,rfl,_,rfl,x,y,ds[i],rfl,dx.same FT,dy.same FT,?_,?_,fun H4 iQ=>nx _ _ ⟨sm.trans (n3.same.trans iQ),?_⟩⟩
   ·have:=oA (n:=n-1) (by omega) (Jx hi)
    omega
   ·exact eM hw (Jx hi)
   ·rw[List.replicate_succ',Ue];rfl
  ·rintro ys H2 ⟨sm,rfl⟩
   have iC:=n1.same.trans sm
   have q1:kU false K H2 a1 vs1:=iC.seq s1
   have q2:kU false K H2 a2 vs2:=iC.seq s2
   refine⟨⟨_,_,q1,q2,.inl (by rw[ds1.len];exact Jd _)⟩,fun p2 si =>?_⟩
   refine⟨p2,Jv ds.length true,rfl,aM.of aq,?_⟩
   rw[all_true]
   exact q _ (iC.trans (bV si _))
 | tuple ds=>
  have e1:=d1
  have e2:=d2
  unfold Den at e1 e2
  obtain⟨a1,vs1,rfl,s1,ds1⟩:=e1
  obtain⟨a2,vs2,rfl,s2,ds2⟩:=e2
  simp only[PyData.depth] at hn
  simp only[PyData.weight] at hw
  have Rm:=eK ds
  refine⟨_,rfl,.inl ⟨rfl,_,rfl,bh ?_⟩⟩
  refine⟨_,rfl,.inl ⟨_, "bool",.tuple ds,false,rfl,d2,rfl,_,rfl,bh ?_⟩⟩
  refine⟨_,rfl,by show 2<=sizeLine;decide,fun p H1 n1=>⟨_,p,["list", "tuple"],.tuple ds,true,rfl,n1.at,d2.same n1.same,rfl,_,rfl,bw ?_⟩⟩
  have b1:=d1.same n1.same
  have b2:=d2.same n1.same
  refine⟨_,rfl,.inl ⟨_, "list",.tuple ds,false,rfl,b1,rfl,_,rfl,.inl ⟨_, "list",.tuple ds,false,rfl,b2,rfl,.inl ⟨rfl,_,rfl,bh ?_⟩⟩⟩⟩
  refine⟨_,rfl,.inl ⟨_, "tuple",.tuple ds,true,rfl,b1,rfl,_,rfl,.inl ⟨_, "tuple",.tuple ds,true,rfl,b2,rfl,.inl ⟨rfl,_,rfl,bh ?_⟩⟩⟩⟩
  refine⟨_,rfl,_,_,rfl,.inr ⟨vs1,n1.same.fM s1,rfl⟩,_,rfl,_,_,rfl,.inr ⟨vs2,n1.same.fM s2,rfl⟩,.inl ⟨rfl,_,rfl,?_⟩⟩
  rw[decide_eq_true (show V.int (vs1.length:Nat)=V.int (vs2.length:Nat) by rw[ds1.len,ds2.len])]
  refine bh ?_
  refine⟨_,rfl,_,rfl,true,true,a1,a2,rfl,⟨_,n1.same.fM s1⟩,⟨_,n1.same.fM s2⟩,?_⟩
  refine dj (N:=ds.length) (fun i ys H'=>ak H1 H'/\ys=(Jv i true).map V.bl) ⟨ak.refl _,rfl⟩ ?_ ?_
  ·rintro i ys H2 Nx hi ⟨sm,rfl⟩ nx
   have iC:=n1.same.trans sm
   obtain⟨x,hx,dx⟩:=ds1.get (i:=i) (d:=ds[i]) (Jc hi)
   obtain⟨y,hy,dy⟩:=ds2.get (i:=i) (d:=ds[i]) (Jc hi)
   have q1:kU true K H2 a1 vs1:=iC.fM s1
   have q2:kU true K H2 a2 vs2:=iC.fM s2
   refine⟨⟨_,_,_,_,q1,q2,hx,hy⟩,by rw[Je,U4];exact Jn (show i<10000000 by omega) (by decide),?_⟩
   rintro x' H3 ⟨T',rfl,hN⟩
   have n3:=hN _ _ _ _ q1 q2 hx hy
   refine⟨T',_,rfl,cE.of n3.at,rfl,_,_,rfl,_,_,rfl,rfl,?_⟩
   have FT:=iC.trans n3.same
   refine⟨_,rfl,_,rfl,x,y,ds[i],rfl,dx.same FT,dy.same FT,?_,?_,fun H4 iQ=>nx _ _ ⟨sm.trans (n3.same.trans iQ),?_⟩⟩
   ·have:=oA (n:=n-1) (by omega) (Jx hi)
    omega
   ·exact eM hw (Jx hi)
   ·rw[List.replicate_succ',Ue];rfl
  ·rintro ys H2 ⟨sm,rfl⟩
   have iC:=n1.same.trans sm
   have q1:kU true K H2 a1 vs1:=iC.fM s1
   have q2:kU true K H2 a2 vs2:=iC.fM s2
   refine⟨⟨_,_,q1,q2,.inl (by rw[ds1.len];exact Jd _)⟩,fun p2 si =>?_⟩
   refine⟨p2,Jv ds.length true,rfl,aM.of aq,?_⟩
   rw[all_true]
   exact q _ (iC.trans (bV si _))
 | dict _=>unfold Den at d1;exact d1.elim
end
theorem FH {x:Str}{j:Int}(h0:0<=j)(h1:j<=x.length):sg (Txt.slice x none (some j))=(sg x).take j.toNat:=by
 have e:=PyProof.Rows.slice_closes_to (x:=x) (j:=j) ⟨h0,by rw[<-str_len];exact h1⟩
 rw[eq_of_beq e]
 simp
noncomputable def M4 (x:Str):Bool:=x.cps.all (· < 128)
theorem HE {x:Str}(h:M4 x=true):∀c∈x.cps.toList,c<128:=fun c hc=>by
 unfold M4 at h
 rw[Ys] at h
 have:=h c (by simpa using hc)
 simpa using this
theorem split_not {g:Nat->Bool}:∀(l:List Nat),l.all g=false->∃p c r,l=p++c::r/\(∀a∈p,g a=true)/\g c=false
 | [],h=>by cases h
 | a::l,h=>by
  cases ha:g a with
  | false=>exact⟨[],a,l,rfl,(fun _ z=>nomatch z),ha⟩
  | true=>
   rw[List.all_cons,ha,U3] at h
   obtain⟨p,c,r,rfl,hp,hc⟩:=split_not l h
   refine⟨a::p,c,r,rfl,fun x hx =>?_,hc⟩
   rcases Jm.mp hx with rfl|hx
   ·exact ha
   ·exact hp x hx
theorem mZ (x y:Str):fJ x y=x.cps.toList.all y.cps.contains:=by
 unfold fJ Txt.stripChars
 rw[PyProof.Rows.stripBy_eq]
 generalize y.cps.contains=g
 unfold stripHi stripLo
 simp only[if_true]
 have sub:∀i j:Nat,decide (V.str (Builtin.Str.strSub x i j)=V.str (Str.ofString ""))=decide (min j x.length<=i):=fun i j=>by
  congr 1
  refine propext ⟨fun h =>?_,fun h =>?_⟩
  ·injection h with h
   have h:=congrArg (fun s:Str=>s.cps.size) h
   have e0:(Str.ofString "").cps.size=0:=rfl
   simp only[Builtin.Str.strSub,Array.size_extract,e0] at h
   have:x.cps.size=x.length:=rfl
   omega
  ·congr 1
   unfold Builtin.Str.strSub
   have e:x.cps.extract i j = #[]:=by
    apply Array.eq_empty_of_size_eq_zero
    rw[Array.size_extract]
    have:x.cps.size=x.length:=rfl
    omega
   rw[e]
   rfl
 rw[sub]
 have hlen:x.length=x.cps.toList.length:=by simp[Str.length]
 rw[hlen]
 generalize x.cps.toList=l
 by_cases h:l.all g=true
 ·rw[h]
  have e:l.takeWhile g=l:=by
   clear sub hlen
   induction l with
   | nil=>rfl
   | cons a l ih=>
    rw[List.all_cons,Jw] at h
    rw[List.takeWhile_cons,if_pos h.1,ih h.2]
  rw[e]
  exact decide_eq_true (by omega)
 ·have hf:l.all g=false:=by simpa using h
  rw[hf]
  apply decide_eq_false
  intro z
  obtain⟨p,c,r,rfl,hp,hc⟩:=split_not l hf
  have e:(p++c::r).takeWhile g=p:=by
   clear z hlen sub h hf
   induction p with
   | nil=>rw[List.nil_append,List.takeWhile_cons,hc];rfl
   | cons a p ih=>
    rw[List.cons_append,List.takeWhile_cons,if_pos (hp a Js),ih fun x hx=>hp x (Jo _ hx)]
  have ed:(p++c::r).drop p.length=c::r:=List.drop_left
  rw[e,ed] at z
  have hl:(p++c::r).length=p.length+(r.length+1):=by rw[Jq,J0]
  have tl:((c::r).reverse.takeWhile g).length<=r.length:=by
   rw[List.reverse_cons]
   have:((r.reverse++[c]).takeWhile g).length<=r.reverse.length:=by
    rw[List.takeWhile_append]
    split
    ·rw[Jq]
     have e:[c].takeWhile g=[]:=by simp[List.takeWhile,hc]
     rw[e];simp
    ·exact(List.takeWhile_prefix g).length_le
   rw[U7] at this
   exact this
  omega
theorem qt:∀c<128,Txt.contains dF ⟨#[c]⟩=dF.cps.contains c:=by decide +kernel
theorem mK {α:Type}[DecidableEq α]{f:Nat -> α}{k: α}:∀{i:Nat},k∈bR f i ↔ ∃j,j<i/\f j=k
 | 0=>by simp[bR]
 | i+1=>by
  unfold bR oneMore
  have ih:=mK (f:=f) (k:=k) (i:=i)
  by_cases h:f i∈bR f i
  ·rw[if_pos h,ih]
   constructor
   ·rintro⟨j,hj,e⟩;exact⟨j,by omega,e⟩
   ·rintro⟨j,hj,e⟩
    by_cases hji:j=i
    ·subst hji
     obtain⟨m,hm,em⟩:=(mK (f:=f) (k:=f j) (i:=j)).mp h
     exact⟨m,hm,em.trans e⟩
    ·exact⟨j,by omega,e⟩
  ·rw[if_neg h,Us,ih,Uc]
   constructor
   ·rintro(⟨j,hj,e⟩|e)
    ·exact⟨j,by omega,e⟩
    ·exact⟨i,by omega,e.symm⟩
   ·rintro⟨j,hj,e⟩
    by_cases hji:j=i
    ·subst hji;exact .inr e.symm
    ·exact .inl ⟨j,by omega,e⟩
theorem ua {α:Type}[DecidableEq α]{f:Nat -> α}:∀{i:Nat},(bR f i).length=i ↔ ∀a b,a<b->b<i->f a≠f b
 | 0=>⟨fun _ a b _ h=>absurd h (Y4 _),fun _=>rfl⟩
 | i+1=>by
  have ih:=ua (f:=f) (i:=i)
  have le:=jF f i
  unfold bR oneMore
  by_cases h:f i∈bR f i
  ·rw[if_pos h]
   refine⟨fun z=>by omega,fun z =>?_⟩
   obtain⟨j,hj,e⟩:=mK.mp h
   exact absurd e (z j i hj (by omega))
  ·rw[if_neg h,Jq,List.length_singleton]
   constructor
   ·intro z a b sf hb e
    by_cases hbi:b=i
    ·subst hbi
     exact h (mK.mpr ⟨a,sf,e⟩)
    ·exact ih.mp (by omega) a b sf (by omega) e
   ·intro z
    have:=ih.mpr fun a b sf hb=>z a b sf (by omega)
    omega
theorem zJ {l:List Str}:(bR (fun i=>l.getD i Str.empty) l.length).length=l.length↔l.Nodup:=by
 rw[ua,List.nodup_iff_pairwise_ne,Uq]
 constructor
 ·intro h i j hi hj mL e
  refine h i j mL hj ?_
  simp only[Uu,Jc hi,Jc hj]
  exact e
 ·intro h a b sf hb e
  refine h a b (by omega) hb sf ?_
  simpa only [Uu,Jc hb,Jc (show a<l.length by omega),Option.getD_some] using e
theorem rm:∀(p q t:List Nat),p<=q->q<=p++t->p <+: q
 | [],q,_,_,_=>List.nil_prefix
 | a::p,[],t,h,_=>absurd h (by simp)
 | a::p,b::q,t,h,g=>by
  rw[List.cons_append] at g
  rw[List.cons_le_cons_iff] at h g
  have e:a=b:=by omega
  subst e
  have h:p<=q:=by rcases h with z|z;omega;exact z.2
  have g:q<=p++t:=by rcases g with z|z;omega;exact z.2
  exact List.cons_prefix_cons.mpr ⟨rfl,rm p q t h g⟩
theorem DZ {cs:List Str}(so:PyProof.Rows.sortedS cs=true):(∀i (h:i+1<cs.length),¬(sg cs[i] <+: sg cs[i+1]))↔fg cs:=by
 have pw:=Uq.mp (lM so)
 constructor
 ·intro h
  have iB:∀i j (hi:i<cs.length) (hj:j<cs.length),i<j->¬(sg cs[i] <+: sg cs[j]):=fun i j hi hj mL z=>by
   refine h i (by omega) ?_
   obtain⟨t,e⟩:=z
   refine rm _ _ t (pw i (i+1) hi (by omega) (by omega)) ?_
   rw[e]
   by_cases k:i+1=j
   ·subst k;exact List.le_refl _
   ·exact pw (i+1) j (by omega) hj (by omega)
  refine Uq.mpr fun i j hi hj mL=>⟨iB i j hi hj mL,fun z=>iB i j hi hj mL ?_⟩
  obtain⟨t,e⟩:=z
  have h1:=pw i j hi hj mL
  rw[show cs[i].cps.toList=sg cs[j]++t from e.symm] at h1
  have h2:sg cs[j]++t <+: sg cs[j]:=rm _ _ [] h1 (by rw[Yg];exact List.le_append_left)
  rw[show sg cs[i]=sg cs[j]++t from e.symm]
  exact h2
 ·intro h i hi
  exact(Uq.mp h i (i+1) (by omega) hi (by omega)).1
theorem CS (j:Int)(n:Nat)(h:n<=j):PySem.Builtin.Str.strSliceIndices none (some j) 1 n=PySem.Builtin.Str.strSliceIndices none (some (n:Int)) 1 n:=by
 unfold PySem.Builtin.Str.strSliceIndices
 dsimp only
 congr 1
 have a:¬j<0:=by omega
 have b:¬((n:Nat):Int)<0:=by omega
 rw[if_neg a,if_neg b]
 omega
theorem Im {x:Str}{j:Int}(h0:0<=j):sg (Txt.slice x none (some j))=(sg x).take j.toNat:=by
 by_cases h1:j<=x.length
 ·exact FH h0 h1
 ·have e:Txt.slice x none (some j)=Txt.slice x none (some (x.length:Int)):=by
   unfold Txt.slice
   rw[CS j _ (by omega)]
  rw[e,FH (by omega) (Int.le_refl _),Ym (by show(sg x).length<=_;rw[show(sg x).length=x.length from(str_len x).symm];omega),Ym (by rw[show(sg x).length=x.length from(str_len x).symm];omega)]
theorem ES {x y:Str}:Txt.slice y none (some ((x.length:Nat):Int))=x↔sg x <+: sg y:=by
 have e:sg (Txt.slice y none (some ((x.length:Nat):Int)))=(sg y).take x.length:=by
  rw[Im (by omega)];rfl
 have hl:x.length=(sg x).length:=str_len x
 rw[List.prefix_iff_eq_take,<-hl]
 constructor
 ·intro h
  rw[h] at e
  exact e
 ·intro h
  exact xk (e.trans h.symm)
noncomputable def jb:PyData->Bool
 | .tuple [.str _,.str y]=>cj (.str y)
 | _=>false
theorem Ls {d:PyData}(h:bg d=true):jb d=true:=by
 obtain⟨x,y,rfl⟩:=oq h
 have h:(cM (.str x)&&cj (.str y))=true:=h
 rw[Jw] at h
 exact h.2
theorem xc {d:PyData}(h:jb d=true):∃x y,d = .tuple [.str x,.str y]/\cj (.str y)=true:=by
 unfold jb at h
 split at h
 ·exact⟨_,_,rfl,h⟩
 ·cases h
theorem HZ {ns:List Str}{d:PyData}(h:∀ds,fm d ≠ .list ds):bW ns d=false:=by
 unfold bW
 cases e:fm d with
 | list ds=>exact absurd e (h ds)
 | _=>simp only[cq,U9]
theorem xn (ds:List PyData):(cf (.list ds)).length=ds.length:=by unfold cf;rw[Je]
theorem Dt {ns:List Str}{d:PyData}{ds:List PyData}(e:fm d = .list ds)(h:ds.length≠ns.length):bW ns d=false:=by
 unfold bW
 rw[e,decide_eq_false (p:=((cf (.list ds)).map (·.1)).Perm ns) (fun z=>h (by have:=z.length_eq;rw[Je,xn] at this;exact this)),U9,Bool.and_false]
theorem E5 {ns:List Str}{d:PyData}{ds:List PyData}(e:fm d = .list ds){x:PyData}(hx:x∈ds)(h:jb x=false):bW ns d=false:=by
 unfold bW
 rw[e]
 have:cq (.list ds)=false:=Uv.mpr fun z=>by
  have z:(!ds.isEmpty&&(ds.all bg&&decide ((bR (fun i=>(ds.map fF).getD i Str.empty) ds.length).length=ds.length)))=true:=z
  rw[Jw,Jw,Yk] at z
  have:=Ls (z.2.1 x hx)
  rw[h] at this
  cases this
 rw[this,U9]
theorem ky:∀{ds:List PyData},(∀x∈ds,jb x=true)->ds=(cf (.list ds)).map fun q=>PyData.tuple [.str q.1,.str q.2]
 | [],_=>rfl
 | d::ds,h=>by
  obtain⟨x,y,rfl,_⟩:=xc (h d Js)
  have ih:=ky fun x hx=>h x (Jo _ hx)
  show PyData.tuple [.str x,.str y]::ds=PyData.tuple [.str x,.str y]::(cf (.list ds)).map fun q=>PyData.tuple [.str q.1,.str q.2]
  rw[<-ih]
theorem BQ {ns:List Str}{d:PyData}{ds:List PyData}(e:fm d = .list ds)(h:∀x∈ds,jb x=true)(nn:ns≠[])(nd:ns.Nodup)(nv:∀x∈ns,cM (.str x)=true):
  bW ns d=(decide (((cf (.list ds)).map (·.1)).Perm ns)&&mh (cf (.list ds))):=by
 unfold bW
 rw[e]
 by_cases hp:((cf (.list ds)).map (·.1)).Perm ns
 ·rw[decide_eq_true hp,U3]
  have hb:cq (.list ds)=true:=by
   show(!ds.isEmpty&&(ds.all bg&&decide ((bR (fun i=>(ds.map fF).getD i Str.empty) ds.length).length=ds.length)))=true
   have en:ds.map fF=(cf (.list ds)).map (·.1):=by
    have e2:=congrArg (List.map fF) (ky h)
    rw[Yu] at e2
    exact e2
   rw[Jw,Jw,Yk]
   refine⟨?_,fun x hx =>?_,decide_eq_true ?_⟩
   ·cases ds with
    | nil=>exact absurd hp.symm.eq_nil nn
    | cons _ _=>rfl
   ·have lV:=hx
    rw[ky h] at lV
    obtain⟨q,hq,rfl⟩:=Ur.mp lV
    have h1:=nv q.1 (hp.mem_iff.mp (List.mem_map_of_mem hq))
    have h2:cj (.str q.2)=true:=h _ hx
    show(cM (.str q.1)&&cj (.str q.2))=true
    rw[h1,h2];rfl
   ·have:=zJ (l:=ds.map fF)
    rw[Je] at this
    exact this.mpr (by rw[en];exact hp.nodup_iff.mpr nd)
  rw[hb,U3]
 ·rw[decide_eq_false hp,U9,Bool.and_false]
theorem Dk {x:Str}(h:M4 x=true):(x.cps.toList.all fun c=>Txt.contains dF ⟨#[c]⟩)=fJ x dF:=by
 have hx:=HE h
 rw[mZ]
 rw[Y3,Yk,Yk]
 exact⟨fun z c hc=>by rw[<-qt c (hx c hc)];exact z c hc,fun z c hc=>by rw[qt c (hx c hc)];exact z c hc⟩
noncomputable def MY (b:Bool)(K:Ja)(a:Addr):It:=if b=true then Py K a else IP K a
theorem cX {b:Bool}{K:Ja}{H H':Hp}{a:Addr}{xs:List V}(h:kU b K H a xs)(s:ak H H'):kU b K H' a xs:=by
 cases b
 ·exact s.seq (show aM K H a xs from h)
 ·exact s.fM (show cE K H a xs from h)
theorem wa {b:Bool}{K:Ja}{H:Hp}{a:Addr}{xs:List V}{i:Nat}{x:V}(h:kU b K H a xs)(e:xs[i]? = some x):(MY b K a).go i H/\∀y H',(MY b K a).yld i H y H'->H'=H/\y=x:=by
 cases b
 ·refine⟨⟨xs,x,h,e⟩,fun y H' z =>?_⟩
  obtain⟨rfl,z⟩:=z
  have z:=z xs h
  rw[e] at z
  exact⟨rfl,(Option.some.inj z).symm⟩
 ·refine⟨⟨xs,x,h,e⟩,fun y H' z =>?_⟩
  obtain⟨rfl,z⟩:=z
  have z:=z xs h
  rw[e] at z
  exact⟨rfl,(Option.some.inj z).symm⟩
theorem nX {b:Bool}{K:Ja}{H:Hp}{a:Addr}{xs:List V}{i:Nat}(h:kU b K H a xs)(e:xs.length<=i):(MY b K a).stop i H:=by
 cases b
 ·exact⟨xs,h,e⟩
 ·exact⟨xs,h,e⟩
theorem Cc {b:Bool}{K:Ja}{H:Hp}{a:Addr}{xs:List V}{σ:St}{i:Nat}{R:It->Hp->Prop}(hv: σ[i]? = some (some (.ref a)))(h:kU b K H a xs)(r:R (MY b K a) H):xN K (ph i) σ H R∨G9 K (ph i) σ H R:=by
 cases b
 ·exact .inl ⟨_,hv,a,rfl,⟨xs,h⟩,r⟩
 ·exact .inr ⟨_,hv,a,rfl,⟨xs,h⟩,r⟩
theorem GA {b:Bool}{K:Ja}{H:Hp}{a:Addr}{xs:List V}(h:kU b K H a xs):ym K (.ref a) H xs.length:=by
 cases b
 ·exact .inl ⟨xs,h,rfl⟩
 ·exact .inr ⟨xs,h,rfl⟩
theorem Gv {K:Ja}{H:Hp}{d:PyData}{v:V}(h:Den K H d v):(rX fun(b:Bool) (a:Addr) (us:List V) (ds:List PyData)=>v = .ref a/\kU b K H a us/\au K H ds us/\fm d = .list ds/\PySem.W.kitAny K (.type (uT d)) ((["list", "tuple"]:List String).map Value.type)=some true) ∨
  ((∀ds,fm d ≠ .list ds)/\PySem.W.kitAny K (.type (uT d)) ((["list", "tuple"]:List String).map Value.type)=some false):=by
 cases d with
 | list ds=>
  unfold Den at h
  obtain⟨a,us,rfl,hS,hd⟩:=h
  exact .inl ⟨false,a,us,ds,rfl,hS,hd,rfl,rfl⟩
 | tuple ds=>
  unfold Den at h
  obtain⟨a,us,rfl,hS,hd⟩:=h
  exact .inl ⟨true,a,us,ds,rfl,hS,hd,rfl,rfl⟩
 | dict _=>unfold Den at h;exact h.elim
 | _=>exact .inr ⟨(fun ds z=>nomatch z),rfl⟩
theorem mF (x:Str):decide (V.str x=V.str (Str.ofString ""))=decide (x.length=0):=by
 congr 1
 refine propext ⟨fun h =>?_,fun h =>?_⟩
 ·injection h with h
  rw[h];rfl
 ·congr 1
  cases x with
  | mk c=>
   have:c = #[]:=Array.eq_empty_of_size_eq_zero h
   rw[this];rfl
structure IY (ns:List Str):Prop where
 l:ns.length<64
 nn:ns≠[]
 nd:ns.Nodup
 az:∀x∈ns,fk x=true
 ok:∀x∈ns,cM (.str x)=true
def CW (K:Ja):Sp:=fun vs H Q _=>∃(v:V) (d:PyData) (p:Addr) (ns:List Str),vs=[v,.ref p]/\Den K H d v/\Ee d/\aM K H p (ns.map V.str)/\IY ns/\∀H',ak H H'->Q (.bl (bW ns d)) H'
section
variable {P:Program}{w:World}{K:Ja}{mg:Str->Option Value}{base:Heap}{f:Addr}{fd:FuncData}
theorem dn:aR ["_law_thing", "_law_names", "_law_pair", "_law_codes_here"] ["_law_thing", "_law_names"] (av (top dE)):=⟨rfl,rfl,rfl,by decide +kernel,rfl,by decide +kernel,by decide +kernel⟩
theorem Gu (F:cR K "_law_is_free_book" "_law_is_free_book" (top dE) f fd)(T:Nm mg)(d7:mg "sorted" = none):bC P w K mg base gG 1 f fd ["_law_thing", "_law_names"] (CW K):=by
 refine F.ok dn (fun vs H Q E h =>?_) (fun dI A outer s H vs Q E hr h =>?_)
 ·obtain⟨v,d,p,ns,rfl,_⟩:=h
  rfl
 obtain⟨v,d,p,ns,rfl,hd,fit,AB,N,q⟩:=h
 have cY:=hr.units
 refine⟨_,(af (aX (PW.pt (gh (bT (br (ai (Ck K) rfl T.n_isinstance (by rfl) (aa (pv 0) (aa (fN (aa (aY rfl T.n_list (by rfl) (v := .ty "list") rfl) (aa (aY rfl T.n_tuple (by rfl) (v := .ty "tuple") rfl) ae))) ae))))) (fq (aK (zj K cY) (ai (dQ K) rfl T.n_len (by rfl) (aa (pv 0) ae)) (ai (dQ K) rfl T.n_len (by rfl) (aa (pv 1) ae)) (aH _))))) (ag (aB fG)) aN)
  (af (ip PassesOwn.never rfl (BC (AA K (pv 0)) (jq K (pv 0))) (aU (i:=2) dn.nd rfl (Or.inl rfl)) (af (aX (PW.pt (gh (bT (br (ai (eV K) rfl T.n_isinstance (by rfl) (aa (pv 2) (aa (aY rfl T.n_tuple (by rfl) (v := .ty "tuple") rfl) ae))))) (fq (aK (zj K cY) (ai (dQ K) rfl T.n_len (by rfl) (aa (pv 2) ae)) ah (aH _))))) (ag (aB fG)) aN)
  (af (aX (PW.pt (gh (bT (br (ai (eV K) rfl T.n_isinstance (by rfl) (aa (aV (eB K) (pv 2) ah (fun _ _=>rfl)) (aa (aY rfl T.n_str (by rfl) (v := .ty "str") rfl) ae))))) (fq (bT (br (ai (eV K) rfl T.n_isinstance (by rfl) (aa (aV (eB K) (pv 2) ah (fun _ _=>rfl)) (aa (aY rfl T.n_str (by rfl) (v := .ty "str") rfl) ae)))))))) (ag (aB fG)) aN)
  (ag (aX (PW.pt (gh (aK (jM K cY) (aV (eB K) (pv 2) ah (fun _ _=>rfl)) aD (aH _)) (fq (bT (br (ai (DE K rfl) rfl T.n_all (by rfl) (aa (cW rfl (cP (Nc:=["_law_sign"]) (Fc:=[]) (js:=[])) (Di (aV (eB K) (pv 2) ah (fun _ _=>rfl))) (cc (i:=0) (n:=1) (by decide)) (fun _ _ _ _ _=>(aU (i:=0) (rY ["_law_sign"]) rfl (Or.inl rfl))) (fun _ _ _ _ _=>di) (fun _ _ _ _ _=>(cQ Lb (pv 0) aD (by with_unfolding_all rfl)))) ae))))))) (ag (aB fG)) aN)))))
  (af (aX (aK (zj K cY) (ai (i7 K) rfl d7 (by rfl) (aa (cW rfl (cP (Nc:=["_law_pair"]) (Fc:=[]) (js:=[])) (BC (AA K (pv 0)) (jq K (pv 0))) (cc (i:=0) (n:=1) (by decide)) (fun _ _ _ _ _=>(aU (i:=0) (rY ["_law_pair"]) rfl (Or.inl rfl))) (fun _ _ _ _ _=>di) (fun _ _ _ _ _=>(aV (eB K) (pv 0) ah (fun _ _=>rfl)))) ae)) (ai (i7 K) rfl d7 (by rfl) (aa (pv 1) ae)) (aH _)) (ag (aB fG)) aN)
  (af (aL (i:=3) dn.nd rfl (Or.inl rfl) (ai (i7 K) rfl d7 (by rfl) (aa (cW rfl (cP (Nc:=["_law_pair"]) (Fc:=[]) (js:=[])) (BC (AA K (pv 0)) (jq K (pv 0))) (cc (i:=0) (n:=1) (by decide)) (fun _ _ _ _ _=>(aU (i:=0) (rY ["_law_pair"]) rfl (Or.inl rfl))) (fun _ _ _ _ _=>di) (fun _ _ _ _ _=>(aV (eB K) (pv 0) ah (fun _ _=>rfl)))) ae)))
  (ag (aB (ai (DE K rfl) rfl T.n_all (by rfl) (aa (cW rfl (cP (Nc:=["_law_one", "_law_other_here"]) (Fc:=[]) (js:=[])) (xj K rfl T.n_zip (aa (pv 3) (aa (bz (ue K) (pv 3) (bH ah) bZ) ae))) (ra (eW (cc (i:=0) (n:=2) (by decide)) (eW (cc (i:=1) (n:=2) (by decide)) mG dC gm) dC (km dC gm))) (fun _ _ _ _ _=>(tupK K 2 rfl (bb (aU (i:=0) (rY ["_law_one", "_law_other_here"]) rfl (Or.inl rfl)) (bb (aU (i:=1) (rY ["_law_one", "_law_other_here"]) rfl (Or.inl rfl)) dB)))) (fun _ _ _ _ _=>di) (fun _ _ _ _ _=>(cQ (zj K cY) (bz (ue K) (pv 1) bZ (bH (ai (dQ K) rfl T.n_len (by rfl) (aa (pv 0) ae)))) (pv 0) (aH _)))) ae)))))))),?_⟩
 rcases Gv hd with hz_|⟨no,ek⟩
 case inr=>
  have z:=fun H' s=>q H' s
  rw[HZ no] at z
  exact⟨_,rfl,by show 2<=sizeLine;decide,fun p1 H1 n1=>⟨_,p1,["list", "tuple"],d,false,rfl,n1.at,hd.same n1.same,ek,_,rfl,bw (z _ n1.same)⟩⟩
 obtain⟨b,a,us,ds,rfl,hS0,hds0,ea,ek⟩:=hz_
 refine⟨_,rfl,by show 2<=sizeLine;decide,fun p1 H1 n1=>⟨_,p1,["list", "tuple"],d,true,rfl,n1.at,hd.same n1.same,ek,_,rfl,bh ?_⟩⟩
 have hS:=cX hS0 n1.same
 have dk:=hds0.same n1.same
 have VF:=n1.same.seq AB
 have ul:=dk.len
 refine⟨_,rfl,_,_,rfl,GA hS,_,rfl,_,_,rfl,.inl ⟨_,VF,rfl⟩,.inl ⟨rfl,_,rfl,?_⟩⟩
 by_cases hl:ds.length=ns.length
 case neg=>
  have z:=q _ n1.same
  rw[Dt ea hl] at z
  rw[decide_eq_false (show ¬V.int (us.length:Nat)=V.int ((ns.map V.str).length:Nat) from fun y=>hl (by injection y with y;rw[Je] at y;omega))]
  exact bw z
 rw[decide_eq_true (show V.int (us.length:Nat)=V.int ((ns.map V.str).length:Nat) by rw[Je,ul,hl])]
 refine bh ?_
 dsimp only[eG]
 have pA:ds.length<64:=by rw[hl];exact N.l
 have bad:∀{H':Hp} {x:PyData},ak H1 H'->x∈ds->jb x=false->Q (.bl false) H':=fun s hx hb=>by
  have z:=q _ (n1.same.trans s)
  rw[E5 ea hx hb] at z
  exact z
 have Lv:PyData.weightAll ds<=300000:=by
  have:=qA d
  rw[ea] at this
  have z:=fit.wt
  rw[<-this] at z
  simpa only [PyData.weight] using z
 have Sd:∀x∈ds,Pz x=true:=by
  have:=AK fit.pz
  rw[ea] at this
  exact mO.mp (by simpa only [Pz] using this)
 refine dP (t:=vH _ _ _) (fun σ H'=>(∃x2,σ=[some (.ref a),some (.ref p),x2,none])/\ak H1 H'/\∀x∈ds,jb x=true) (fun Nx nx =>?_) ?_
 ·refine Cc rfl hS ?_
  refine lC (N:=ds.length) (fun i σ H'=>(∃x2,σ=[some (.ref a),some (.ref p),x2,none])/\ak H1 H'/\∀x∈ds.take i,jb x=true) ⟨⟨_,rfl⟩,ak.refl _,fun x hx=>nomatch hx⟩ ?_ ?_
  ·rintro i σ H2 hi ⟨⟨x2,rfl⟩,s2,ok⟩
   obtain⟨x,hx,dx⟩:=(dk.same s2).get (i:=i) (Jc hi)
   obtain⟨g1,g2⟩:=wa (cX hS s2) hx
   refine⟨g1,fun y H3 hy =>?_⟩
   obtain⟨rfl,rfl⟩:=g2 _ _ hy
   have mem:=Jx hi
   have MV:=Sd _ mem
   have NC:=eM (n:=300000) Lv mem
   have MO:jb ds[i]=true->∀x∈ds.take (i+1),jb x=true:=fun h x hx=>by
    rw[Ul hi] at hx
    rcases Us.mp hx with hx|hx
    ·exact ok x hx
    ·rw[Uc.mp hx];exact h
   have bad:∀(H':Hp),ak H1 H'->jb ds[i]=false->Q (.bl false) H':=fun H' s hb=>bad s mem hb
   generalize ds[i]=e at dx MV MO bad NC
   refine gn ?_
   refine⟨_,rfl,.inl ⟨_, "tuple",e,_,rfl,dx,(iw K e).2.2.2.2,_,rfl,?_⟩⟩
   have ne:∀{es:List PyData},es.length≠2->jb (.tuple es)=false:=fun h=>Uv.mpr fun z=>by
    obtain⟨x,y,e,_⟩:=xc z
    exact h (by rw[PyData.tuple.inj e];rfl)
   cases e with
   | tuple es=>
    have Rw:=dx
    unfold Den at Rw
    obtain⟨a2,us2,rfl,hT,oG⟩:=Rw
    refine bh ⟨_,rfl,_,_,rfl,.inr ⟨_,hT,rfl⟩,.inl ⟨rfl,_,rfl,?_⟩⟩
    by_cases c:es.length=2
    case neg=>
     rw[decide_eq_false (show ¬V.int (us2.length:Nat)=V.int 2 from fun z=>c (by injection z with z;have:=oG.len;omega))]
     exact bw (bad _ s2 (ne c))
    match es,c,oG,MV,MO,bad,NC with
    | [d1,d2],_,oG,MV,MO,bad,NC=>
    unfold au at oG
    obtain⟨v1,r1,rfl,h1,oG⟩:=oG
    unfold au at oG
    obtain⟨v2,r2,rfl,h2,oG⟩:=oG
    unfold au at oG
    subst oG
    refine bh ?_
    dsimp only[eG]
    refine⟨_,rfl,.inr (.inl ⟨a2,_,_,_,rfl,rfl,hT,rfl,.inl ⟨_, "str",d1,_,rfl,h1,(iw K d1).2.2.1,_,rfl,?_⟩⟩)⟩
    cases d1 with
    | str x=>
     refine bh ⟨_,rfl,.inr (.inl ⟨a2,_,_,_,rfl,rfl,hT,rfl,.inl ⟨_, "str",d2,_,rfl,h2,(iw K d2).2.2.1,_,rfl,?_⟩⟩)⟩
     cases d2 with
     | str y=>
      have e2:=h2
      unfold Den at e2
      subst e2
      refine bh ?_
      dsimp only[eG]
      refine⟨_,rfl,.inr (.inl ⟨a2,_,_,_,rfl,rfl,hT,rfl,.inl ⟨rfl,_,rfl,?_⟩⟩)⟩
      rw[mF]
      have hz:y.length=0->jb (.tuple [.str x,.str y])=false:=fun h=>by
       show(!decide (V.str y=V.str (Str.ofString ""))&&fJ y dF)=false
       rw[mF,decide_eq_true h];rfl
      by_cases y0:y.length=0
      ·rw[decide_eq_true y0]
       exact bw (bad _ s2 (hz y0))
      rw[decide_eq_false y0]
      have hy:M4 y=true:=by
       have:(fk x&&(fk y&&true))=true:=by simpa only [Pz,Bz] using MV
       rw[Jw,Jw] at this
       exact this.2.1
      have ev:jb (.tuple [.str x,.str y])=(y.cps.toList.all fun c=>Txt.contains dF ⟨#[c]⟩):=by
       show(!decide (V.str y=V.str (Str.ofString ""))&&fJ y dF)=_
       rw[mF,decide_eq_false y0,Dk hy];rfl
      refine bh ⟨_,rfl,.inr (.inl ⟨a2,_,_,_,rfl,rfl,hT,rfl,y,rfl,hy,?_⟩)⟩
      have yl:y.length<=300000:=by
       have w:=NC
       simp only[PyData.weight,PyData.weightAll] at w
       show y.cps.size<=300000
       omega
      have hlen:y.cps.toList.length=y.length:=by simp[Str.length]
      refine dj (N:=y.length) (fun i ys H'=>H'=H3/\ys=((y.cps.toList.take i).map fun c=>Txt.contains dF ⟨#[c]⟩).map V.bl) ⟨rfl,rfl⟩ ?_ ?_
      ·rintro j ys H' Nx hj ⟨rfl,rfl⟩ nx
       have Dc:j<y.cps.toList.length:=by omega
       have ec:y.cps[j]? = some (y.cps.toList[j]):=by
        rw[<-Array.getElem?_toList,Jc Dc]
       refine⟨hj,J3 (by rw[Je,Je,Um];omega) (show 1000000<sizeLine by decide),?_⟩
       rintro x' H2 ⟨rfl,hy2⟩
       have e:=hy2 _ ec
       subst e
       refine⟨_,rfl,_,_,rfl,rfl,nx _ _ ⟨rfl,?_⟩⟩
       rw[Ul Dc,Ue,Ue];rfl
      ·rintro ys H' ⟨rfl,rfl⟩
       refine⟨Jd _,fun p2 si =>?_⟩
       refine⟨p2,_,rfl,aM.of aq,_,rfl,?_⟩
       have s3:ak H1 (upd H' p2 (.lst (((y.cps.toList.take y.length).map fun c=>Txt.contains dF ⟨#[c]⟩).map V.bl))):=s2.trans (bV si _)
       have DT:(((y.cps.toList.take y.length).map fun c=>Txt.contains dF ⟨#[c]⟩).all id)=jb (.tuple [.str x,.str y]):=by
        rw[ev,<-hlen,Wa,List.all_map];rfl
       rw[DT]
       cases hE:jb (.tuple [.str x,.str y]) with
       | false=>exact bw (bad _ s3 hE)
       | true=>exact bh ⟨⟨_,rfl⟩,s3,MO hE⟩
     | _=>exact bw (bad _ s2 rfl)
    | _=>exact bw (bad _ s2 rfl)
   | _=>exact bw (bad _ s2 rfl)
  ·rintro σ H2 ⟨⟨x2,rfl⟩,s2,ok⟩
   rw[Wa] at ok
   exact⟨nX (cX hS s2) (by rw[ul];exact Jd _),nx _ _ ⟨⟨_,rfl⟩,s2,ok⟩⟩
 rintro σ H2 ⟨⟨x2,rfl⟩,s2,ok⟩
 have PQ:=n1.same.trans s2
 have fb:=BQ ea ok N.nn N.nd N.ok
 have Oq:=ky ok
 have Ay:=fit.cd
 rw[ea] at Ay
 have bl:=xn ds
 generalize cf (.list ds)=bk at fb Oq Ay bl
 rw[fb] at q
 have vD:au K H2 (bk.map fun q=>PyData.tuple [.str q.1,.str q.2]) us:=by rw[<-Oq];exact dk.same s2
 have pr:∀(i:Nat) (q:Str×Str),bk[i]? = some q->∃b2:Addr,us[i]? = some (.ref b2)/\cE K H2 b2 [.str q.1,.str q.2]:=fun i q e=>by
  obtain⟨u,hu,du⟩:=vD.get (i:=i) (d := .tuple [.str q.1,.str q.2]) (by rw[Jl,e];rfl)
  unfold Den at du
  obtain⟨b2,vs,rfl,hT,hd⟩:=du
  unfold au at hd
  obtain⟨x,r,rfl,hx,hd⟩:=hd
  unfold au at hd
  obtain⟨y,r,rfl,hy,hd⟩:=hd
  unfold au at hd
  unfold Den at hx hy
  subst hd hx hy
  exact⟨b2,hu,hT⟩
 have az:∀x∈bk.map (·.1),fk x=true:=fun x hx=>by
  obtain⟨q0,hq0,rfl⟩:=Ur.mp hx
  have h2:=Sd (.tuple [.str q0.1,.str q0.2]) (by rw[Oq];exact Ur.mpr ⟨q0,hq0,rfl⟩)
  simp only[Pz,Bz,Jw] at h2
  exact h2.1
 have Vy:bk.length<64:=by rw[bl];exact pA
 have small:∀{n:Nat},n<=1000000->n<sizeLine:=fun h=>J3 h (by decide)
 have C2:=cX hS s2
 refine Cc rfl C2 ?_
 refine dj (N:=bk.length) (fun i ys H'=>H'=H2/\ys=((bk.take i).map (·.1)).map V.str) ⟨rfl,rfl⟩ ?_ ?_
 ·rintro i ys H3 Ny hi ⟨rfl,rfl⟩ ny
  obtain⟨b2,rZ,hT⟩:=pr i bk[i] (Jc hi)
  obtain⟨g1,g2⟩:=wa C2 rZ
  refine⟨g1,small (by rw[Je,Je,Um];omega),fun y H4 hy =>?_⟩
  obtain⟨rfl,rfl⟩:=g2 _ _ hy
  refine gn ?_
  refine⟨_,rfl,.inr (.inl ⟨b2,_,_,_,rfl,rfl,hT,rfl,ny _ _ ⟨rfl,?_⟩⟩)⟩
  rw[Ul hi,Ue,Ue]
  rfl
 rintro ys H3 ⟨rfl,rfl⟩
 refine⟨nX C2 (by omega),fun pv hp =>?_⟩
 rw[Wa]
 have s3:ak H3 (upd H3 pv (.lst ((bk.map (·.1)).map V.str))):=bV hp _
 refine⟨pv,bk.map (·.1),rfl,.inl (aM.of aq),by rw[Je];omega,fun ms q1 H4 pm so n4 =>?_⟩
 have s4:=s3.trans n4.same
 refine⟨_,rfl,p,ns,rfl,.inl ((PQ.trans s4).seq AB),N.l,fun ms2 q2 H5 xA so2 n5 =>.inr ⟨.list (ms.map .str),.list (ms2.map .str),Den.list (aM.of (n5.same _ _ n4.at)) (Den.strs _),Den.list (aM.of n5.at) (Den.strs _),rV fun x hx=>az x (pm.mem_iff.mp hx),rV fun x hx=>N.az x (xA.mem_iff.mp hx),?_⟩⟩
 have s5:=s4.trans n5.same
 have ev:PyData.eqv (.list (ms.map .str)) (.list (ms2.map .str))=decide (ms=ms2):=by simp only[PyData.eqv];exact nL ms ms2
 rw[ev]
 by_cases e:ms=ms2
 case neg=>
  have np:¬(bk.map (·.1)).Perm ns:=fun pp=>e (qc (pm.trans (pp.trans xA.symm)) so so2)
  have z:=q H5 (PQ.trans s5)
  rw[show decide ((bk.map (·.1)).Perm ns)=false from decide_eq_false np,U9] at z
  rw[decide_eq_false e]
  exact⟨_,rfl,bw z⟩
 have pp:(bk.map (·.1)).Perm ns:=pm.symm.trans (by rw[e];exact xA)
 rw[show decide ((bk.map (·.1)).Perm ns)=true from decide_eq_true pp,U3] at q
 rw[decide_eq_true e]
 refine⟨_,rfl,bh ?_⟩
 dsimp only[eG]
 have Fi:=cX C2 s5
 have pr:∀(i:Nat) (q:Str×Str),bk[i]? = some q->∃b2:Addr,us[i]? = some (.ref b2)/\cE K H5 b2 [.str q.1,.str q.2]:=fun i q e=>by
  obtain⟨b2,h1,h2⟩:=pr i q e
  exact⟨b2,h1,s5.fM h2⟩
 refine Cc rfl Fi ?_
 refine dj (N:=bk.length) (fun i ys H'=>H'=H5/\ys=((bk.take i).map (·.2)).map V.str) ⟨rfl,rfl⟩ ?_ ?_
 ·rintro i ys H6 Ny hi ⟨rfl,rfl⟩ ny
  obtain⟨b2,rZ,hT⟩:=pr i bk[i] (Jc hi)
  obtain⟨g1,g2⟩:=wa Fi rZ
  refine⟨g1,small (by rw[Je,Je,Um];omega),fun y H7 hy =>?_⟩
  obtain⟨rfl,rfl⟩:=g2 _ _ hy
  refine gn ?_
  refine⟨_,rfl,.inr (.inl ⟨b2,_,_,_,rfl,rfl,hT,rfl,ny _ _ ⟨rfl,?_⟩⟩)⟩
  rw[Ul hi,Ue,Ue]
  rfl
 rintro ys H6 ⟨rfl,rfl⟩
 refine⟨nX Fi (by omega),fun pv2 si =>?_⟩
 rw[Wa]
 have s6:ak H6 (upd H6 pv2 (.lst ((bk.map (·.2)).map V.str))):=bV si _
 refine⟨pv2,bk.map (·.2),rfl,.inl (aM.of aq),by rw[Je];omega,fun cs q3 H7 pc sc n7=>gn ?_⟩
 have s7:=s6.trans n7.same
 have cl:cs.length=bk.length:=by rw[pc.length_eq,Je]
 have cw:∀x∈cs,x.length<=200000:=fun x hx=>by
  obtain⟨q0,hq0,rfl⟩:=Ur.mp (pc.mem_iff.mp hx)
  exact Ay q0 hq0
 refine⟨_,rfl,_,rfl,1,rfl,.inl ⟨_,_,rfl,aM.of n7.at,fun p8 H8 n8 =>?_⟩⟩
 rw[show((1:Int))=((1:Nat):Int) from rfl,sA] at n8
 have q7:kU false K H8 q3 (cs.map V.str):=aM.of (n8.same _ _ n7.at)
 have q8:kU false K H8 p8 ((cs.map V.str).drop 1):=aM.of n8.at
 refine⟨false,false,q3,p8,rfl,⟨_,q7⟩,⟨_,q8⟩,?_⟩
 let tst:Nat->Bool:=fun j => !decide (V.str (Txt.slice (cs.getD (j+1) Str.empty) none (some (((cs.getD j Str.empty).length:Nat):Int)))=V.str (cs.getD j Str.empty))
 refine dj (N:=cs.length-1) (fun i ys H'=>ak H8 H'/\ys=((Wb i).map tst).map V.bl) ⟨ak.refl _,rfl⟩ ?_ ?_
 ·rintro i ys H9 Ny hi ⟨s9,rfl⟩ ny
  have g0:(cs.map V.str)[i]? = some (V.str (cs.getD i Str.empty)):=by
   rw[Jl,Uu,Jc (by omega)];rfl
  have g1:((cs.map V.str).drop 1)[i]? = some (V.str (cs.getD (i+1) Str.empty)):=by
   rw[List.getElem?_drop,Jl,Uu,Nat.add_comm 1 i,Jc (by omega)];rfl
  refine⟨⟨_,_,_,_,cX q7 s9,cX q8 s9,g0,g1⟩,small (by rw[Je,Je,List.length_range];omega),?_⟩
  rintro x' H10 ⟨T',rfl,hN⟩
  have uW:=hN _ _ _ _ (cX q7 s9) (cX q8 s9) g0 g1
  refine⟨T',_,rfl,cE.of uW.at,rfl,_,_,rfl,_,_,rfl,rfl,?_⟩
  have w0:(cs.getD i Str.empty).length<=200000:=cw _ (by rw[Uu,Jc (by omega)];exact Jx _)
  have w1:(cs.getD (i+1) Str.empty).length<=200000:=cw _ (by rw[Uu,Jc (by omega)];exact Jx _)
  refine⟨_,rfl,_,rfl,_,_,rfl,⟨Uz (small (Jg w0 (by decide))),rfl⟩,_,rfl,.inr ⟨_,rfl,Uz (small (Jg w1 (by decide))),?_⟩⟩
  refine⟨_,rfl,.inl ⟨rfl,ny _ _ ⟨s9.trans uW.same,?_⟩⟩⟩
  rw[List.range_succ,Ue,Ue];rfl
 rintro ys H9 ⟨s9,rfl⟩
 refine⟨⟨_,_,cX q7 s9,cX q8 s9,.inr (by rw[Yr,Je];exact Jd _)⟩,fun p10 hp10 =>?_⟩
 refine⟨p10,_,rfl,aM.of aq,?_⟩
 have z:=q _ (PQ.trans (s5.trans (s7.trans (n8.same.trans (s9.trans (bV hp10 (.lst (((Wb (cs.length-1)).map tst).map V.bl))))))))
 have ez:(((Wb (cs.length-1)).map tst).all id)=mh bk:=by
  rw[Y3,List.all_map,Yk]
  have fr:mh bk=true↔fg cs:=by
   unfold mh
   rw[@decide_eq_true_iff _ (Classical.propDecidable _)]
   exact⟨fun h=>h.perm pc.symm,fun h=>h.perm pc⟩
  rw[fr,<-DZ sc]
  have one:∀i (hi:i+1<cs.length),tst i=true ↔ ¬(sg cs[i] <+: sg cs[i+1]):=fun i hi=>by
   show(!decide (V.str (Txt.slice (cs.getD (i+1) Str.empty) none (some (((cs.getD i Str.empty).length:Nat):Int)))=V.str (cs.getD i Str.empty)))=true↔_
   rw[Bool.not_eq_true',decide_eq_false_iff_not,Uu,Jc hi,Uu,Jc (show i<cs.length by omega)]
   rw[<-ES]
   exact not_congr ⟨fun h=>V.str.inj h,fun h=>congrArg V.str h⟩
  constructor
  ·intro h i hi
   exact(one i hi).mp (h i (List.mem_range.mpr (by omega)))
  ·intro h i hi
   have:=List.mem_range.mp hi
   exact(one i (by omega)).mpr (h i (by omega))
 rw[ez]
 exact z
end
def l8 (ws:List Str):Sp:=fun vs H Q _=>vs=[]/\∀p H',gJ H p (.lst (ws.map V.str)) H'->Q (.ref p) H'
noncomputable def B7 (lo hi:Int):PyData->Bool
 | .int i=>decide (lo<=i)&&decide (i<=hi)
 | _=>false
def CI (K:Ja):Sp:=fun vs H Q _=>wL fun(lp:Addr) v1 v2 v3 v4 v5=>uR fun d1 d2 d3 d4 d5=>vs=[.ref lp]/\aM K H lp [v1,v2,v3,v4,v5]/\pq K H v1 v2 v3 v4 v5 d1 d2 d3 d4 d5/\∀H',ak H H'->Q (uz (gb d1 d2 d3 d4 d5)) H'
theorem Fu:IY aG:=⟨by decide,by decide,by decide +kernel,by decide +kernel,by decide +kernel⟩
theorem Ml:IY cH:=⟨by decide,by decide,by decide +kernel,by decide +kernel,by decide +kernel⟩
theorem My:IY bQ:=⟨by decide,by decide,by decide +kernel,by decide +kernel,by decide +kernel⟩
def wj (K:Ja):Sp:=fun vs H Q _=>∃(v:V) (d:PyData) (lo hi:Int),vs=[v,.int lo,.int hi]/\Den K H d v/\Q (.bl (B7 lo hi d)) H
section
variable {P:Program}{w:World}{K:Ja}{mg:Str->Option Value}{base:Heap}{f:Addr}{fd:FuncData}
theorem q9:aR [] [] (av (top i9)):=⟨rfl,rfl,rfl,by decide +kernel,rfl,by decide +kernel,by decide +kernel⟩
theorem Cw (F:cR K "_law_kinds" "_law_kinds" (top i9) f fd)(T:Nm mg):bC P w K mg base gG 1 f fd [] (l8 aG):=by
 refine F.ok q9 (fun vs H Q E h =>?_) (fun dI A outer s H vs Q E hr h =>?_)
 ·obtain⟨rfl,_⟩:=h
  rfl
 obtain⟨rfl,q⟩:=h
 refine⟨_,(ag (aB (yN K PySem.F.plainAttrs_str PySem.F.slot_str_split PySem.F.type_str_split wO aD (aa aD ae)))),?_⟩
 have FV:Txt.split (Str.ofString "set add take tell ask jump zero stop farjump farzero skip") (Str.ofString " ")=aG:=by decide +kernel
 have sl:(Str.ofString " ").length≠0:=by decide +kernel
 refine⟨rfl,_,_,rfl,rfl,sl,by decide +kernel,by rw[FV];decide,fun p H7 n7 =>?_⟩
 rw[FV] at n7
 exact q p H7 n7
theorem rg:aR [] [] (av (top iI)):=⟨rfl,rfl,rfl,by decide +kernel,rfl,by decide +kernel,by decide +kernel⟩
theorem A5 (F:cR K "_law_sizes" "_law_sizes" (top iI) f fd)(T:Nm mg):bC P w K mg base gG 1 f fd [] (l8 bQ):=by
 refine F.ok rg (fun vs H Q E h =>?_) (fun dI A outer s H vs Q E hr h =>?_)
 ·obtain⟨rfl,_⟩:=h
  rfl
 obtain⟨rfl,q⟩:=h
 refine⟨_,(ag (aB (yN K PySem.F.plainAttrs_str PySem.F.slot_str_split PySem.F.type_str_split wO aD (aa aD ae)))),?_⟩
 have FV:Txt.split (Str.ofString "none one two three four five six seven eight") (Str.ofString " ")=bQ:=by decide +kernel
 have sl:(Str.ofString " ").length≠0:=by decide +kernel
 refine⟨rfl,_,_,rfl,rfl,sl,by decide +kernel,by rw[FV];decide,fun p H7 n7 =>?_⟩
 rw[FV] at n7
 exact q p H7 n7
theorem lN:aR ["_law_thing", "_law_low", "_law_top"] ["_law_thing", "_law_low", "_law_top"] (av (top fy)):=⟨rfl,rfl,rfl,by decide +kernel,rfl,by decide +kernel,by decide +kernel⟩
theorem E7 (F:cR K "_law_is_number" "_law_is_number" (top fy) f fd)(T:Nm mg):bC P w K mg base gG 1 f fd ["_law_thing", "_law_low", "_law_top"] (wj K):=by
 refine F.ok lN (fun vs H Q E h =>?_) (fun dI A outer s H vs Q E hr h =>?_)
 ·obtain⟨v,d,lo,hi,rfl,_⟩:=h
  rfl
 obtain⟨v,d,lo,hi,rfl,hd,q⟩:=h
 refine⟨_,(ag (aB (dY (ai (eV K) rfl T.n_isinstance (by rfl) (aa (pv 0) (aa (aY rfl T.n_int (by rfl) (v := .ty "int") rfl) ae))) (dY (vt (ai (eV K) rfl T.n_isinstance (by rfl) (aa (pv 0) (aa (aY rfl T.n_bool (by rfl) (v := .ty "bool") rfl) ae)))) (iL (tN mY mY (pv 1) (pv 0) (pv 2))))))),?_⟩
 refine⟨_,rfl,.inl ⟨_, "int",d,_,rfl,hd,(iw K d).2.1,_,rfl,?_⟩⟩
 cases d with
 | int i=>
  have e:=hd
  unfold Den at e
  subst e
  refine bw ⟨_,rfl,.inl ⟨_, "bool",.int i,_,rfl,hd,(iw K (.int i)).1,_,rfl,_,rfl,bw ?_⟩⟩
  refine⟨_,rfl,_,rfl,_,_,rfl,rfl,?_⟩
  have q:Q (.bl (decide (lo<=i)&&decide (i<=hi))) H:=q
  refine⟨_,rfl,?_⟩
  by_cases c:lo<=i
  ·rw[decide_eq_true c,U3] at q
   rw[decide_eq_true c]
   exact bw ⟨_,rfl,_,_,rfl,rfl,q⟩
  ·rw[decide_eq_false c,U9] at q
   rw[decide_eq_false c]
   exact bh q
 | bool i=>exact bw ⟨_,rfl,.inl ⟨_, "bool",.bool i,_,rfl,hd,(iw K (.bool i)).1,_,rfl,_,rfl,bh q⟩⟩
 | _=>exact bh q
theorem cG:aR ["_law_parts_here", "_law_names", "_law_why", "_law_book", "_law_some", "_law_kinds_here", "_law_one", "_law_other_here", "_law_more"] ["_law_parts_here"] (av (top ll)):=⟨rfl,rfl,rfl,by decide +kernel,rfl,by decide +kernel,by decide +kernel⟩
theorem Iv (F:cR K "_law_due" "_law_due" (top ll) f fd)(T:Nm mg)(fB:mg "dict" = none)(iW:Fn P w K mg base 1 "_law_kinds" [] (l8 aG))(iP:Fn P w K mg base 1 "_law_sizes" [] (l8 bQ))(jP:Fn P w K mg base 1 "_law_is_free_book" ["_law_thing", "_law_names"] (CW K))(ir:Fn P w K mg base 1 "_law_is_number" ["_law_thing", "_law_low", "_law_top"] (wj K)):bC P w K mg base gG 2 f fd ["_law_parts_here"] (CI K):=by
 refine F.ok cG (fun vs H Q E h =>?_) (fun dI A outer s H vs Q E hr h =>?_)
 ·obtain⟨lp,v1,v2,v3,v4,v5,d1,d2,d3,d4,d5,rfl,_⟩:=h
  rfl
 obtain⟨lp,v1,v2,v3,v4,v5,d1,d2,d3,d4,d5,rfl,hl,D,q⟩:=h
 have cY:=hr.units
 have hu:=ur hr
 refine⟨_,(af (aL (i:=1) cG.nd rfl (Or.inl rfl) (eY (aa (rF (iW.mono (by first|decide|exact Jd _|omega)) hr rfl) (aa (eY (aa aD (aa aD (aa aD (aa aD ae))))) (aa (rF (iP.mono (by first|decide|exact Jd _|omega)) hr rfl) ae)))))
  (af (ip PassesOwn.never rfl (Dv K rfl T.n_zip (aa (eY (aa aD (aa aD (aa aD ae)))) (aa (bz (ue K) (pv 0) bZ (bH ah)) (aa (pv 1) ae)))) (tupK K 3 rfl (bb (aU (i:=2) cG.nd rfl (Or.inl rfl)) (bb (aU (i:=3) cG.nd rfl (Or.inl rfl)) (bb (aU (i:=4) cG.nd rfl (Or.inl rfl)) dB)))) (ag (aX (bT (br (aO (jP.mono (by decide)) hr rfl (aa (pv 3) (aa (pv 4) ae))))) (ag (aB (pv 2))) aN)))
  (af (aX (bT (br (aO (ir.mono (by decide)) hr rfl (aa (aV (eB K) (pv 0) ah (fun _ _=>rfl)) (aa ah (aa ah ae)))))) (ag (aB aD)) aN)
  (af (aX (bT (br (aO (ir.mono (by decide)) hr rfl (aa (aV (eB K) (pv 0) ah (fun _ _=>rfl)) (aa (aQ cp (aV (eB K) (pv 0) ah (fun _ _=>rfl)) ah) (aa ah ae)))))) (ag (aB aD)) aN)
  (af (aL (i:=5) cG.nd rfl (Or.inl rfl) (ba (CP K rfl) rfl fB (by rfl) (aa (aV (eB K) (pv 0) ah (fun _ _=>rfl)) ae)))
  (af (ip PassesOwn.never rfl (jq K (fN (aa (fN (aa aD (aa aD ae))) (aa (fN (aa aD (aa aD ae))) ae)))) (tupK K 2 rfl (bb (aU (i:=6) cG.nd rfl (Or.inl rfl)) (bb (aU (i:=7) cG.nd rfl (Or.inl rfl)) dB))) (af (aL (i:=8) cG.nd rfl (Or.inl rfl) (aQ cp (ai (dQ K) rfl T.n_len (by rfl) (aa (cN hu (pv 5) (pv 6) (fun _ _=>rfl)) ae)) (aV (eB K) (pv 0) ah (fun _ _=>rfl))))
  (ag (aX (aK nC (aQ cp (ai (dQ K) rfl T.n_len (by rfl) (aa (cN hu (pv 5) (pv 7) (fun _ _=>rfl)) ae)) (aV (eB K) (pv 0) ah (fun _ _=>rfl))) (pv 8) (aH _)) (ag (aB aD)) aN))))
  (ag (aB cJ)))))))),?_⟩
 refine⟨rfl,fun pk H1 n1=>⟨by show 4<=sizeLine;decide,fun ps H2 n2=>⟨rfl,fun pz H3 n3=>⟨by show 3<=sizeLine;decide,fun p4 H4 n4=>gn ?_⟩⟩⟩⟩
 have s4:ak H H4:=n1.same.trans (n2.same.trans (n3.same.trans n4.same))
 have k4:aM K H4 pk (aG.map V.str):=aM.of (n4.same _ _ (n3.same _ _ (n2.same _ _ n1.at)))
 have Tu:aM K H4 ps (cH.map V.str):=aM.of (n4.same _ _ (n3.same _ _ n2.at))
 have z4:aM K H4 pz (bQ.map V.str):=aM.of (n4.same _ _ n3.at)
 have wy:∀{y:Option Str},gb d1 d2 d3 d4 d5=y->∀H',ak H H'->Q (uz y) H':=fun e H' sm=>by rw[<-e];exact q H' sm
 dsimp only
 refine dP (t:=vH _ _ _) (fun σ H'=>(mI fun x2 x3 x4 =>σ=[some (.ref lp),some (.ref p4),x2,x3,x4,none,none,none,none])/\ak H H'/\bW aG d1=true/\bW cH d2=true/\bW bQ d3=true) (fun Nx nx =>?_) ?_
 ·refine⟨by show 3<=sizeLine;decide,fun p5 H5 n5 =>?_⟩
  refine⟨_,rfl,3,rfl,.inl ⟨_,_,rfl,(s4.trans n5.same).seq hl,fun p6 H6 n6 =>?_⟩⟩
  rw[show(3:Int)=((3:Nat):Int) from rfl,v9] at n6
  have s6:=s4.trans (n5.same.trans n6.same)
  have KC:=n5.same.trans n6.same
  refine⟨_,rfl,p5,p6,p4,_,_,_,rfl,aM.of (n6.same _ _ n5.at),aM.of n6.at,aM.of (KC _ _ n4.at),?_⟩
  have D6:=D.same s6
  have k6:=KC.seq k4
  have VJ:=KC.seq Tu
  have z6:=KC.seq z4
  have a5:=n6.same _ _ n5.at
  have a6:=n6.at
  have a4:=KC _ _ n4.at
  refine lC (N:=3) (fun i σ H'=>(mI fun x2 x3 x4 =>σ=[some (.ref lp),some (.ref p4),x2,x3,x4,none,none,none,none])/\ak H6 H'/\(0<i->bW aG d1=true)/\(1<i->bW cH d2=true)/\(2<i->bW bQ d3=true)) ⟨⟨_,_,_,rfl⟩,ak.refl _,(fun h=>absurd h (by decide)),(fun h=>absurd h (by decide)),(fun h=>absurd h (by decide))⟩ ?_ ?_
  ·rintro i σ H7 hi ⟨⟨x2,x3,x4,rfl⟩,s7,o1,o2,o3⟩
   have lay:∀{x y u:V},([V.str "kinds",V.str "spots",V.str "sizes"]:List V)[i]? = some x->([v1,v2,v3]:List V)[i]? = some y->([V.ref pk,V.ref ps,V.ref pz]:List V)[i]? = some u->(EV K p5 p6 p4).go i H7/\∀w H',(EV K p5 p6 p4).yld i H7 w H'->∃T,w = .ref T/\gJ H7 T (.tup [x,y,u]) H':=fun h1 h2 h3=>⟨⟨_,_,_,_,_,_,aM.of (s7 _ _ a5),aM.of (s7 _ _ a6),aM.of (s7 _ _ a4),h1,h2,h3⟩,fun w H' ⟨T,e,h⟩=>⟨T,e,h _ _ _ _ _ _ (aM.of (s7 _ _ a5)) (aM.of (s7 _ _ a6)) (aM.of (s7 _ _ a4)) h1 h2 h3⟩⟩
   have D7:=D6.same s7
   match i,hi with
   | 0,_=>
    obtain⟨g1,g2⟩:=lay rfl rfl rfl
    refine⟨g1,fun w H8 hw =>?_⟩
    obtain⟨T',rfl,n8⟩:=g2 _ _ hw
    refine⟨T',_,rfl,cE.of n8.at,rfl,_,_,rfl,_,_,rfl,_,_,rfl,rfl,?_⟩
    have s8:=s7.trans n8.same
    refine⟨_,rfl,_,rfl,v1,d1,pk,aG,rfl,(D6.same s8).e1,D.f1,s8.seq k6,Fu,fun H9 s9=>⟨_,rfl,?_⟩⟩
    cases hb:bW aG d1 with
    | false=>exact bw ⟨_,rfl,wy (if_pos hb) _ (s6.trans (s8.trans s9))⟩
    | true=>exact bh ⟨⟨_,_,_,rfl⟩,s8.trans s9,fun _=>rfl,fun h=>absurd h (by decide),fun h=>absurd h (by decide)⟩
   | 1,_=>
    obtain⟨g1,g2⟩:=lay rfl rfl rfl
    refine⟨g1,fun w H8 hw =>?_⟩
    obtain⟨T',rfl,n8⟩:=g2 _ _ hw
    refine⟨T',_,rfl,cE.of n8.at,rfl,_,_,rfl,_,_,rfl,_,_,rfl,rfl,?_⟩
    have s8:=s7.trans n8.same
    refine⟨_,rfl,_,rfl,v2,d2,ps,cH,rfl,(D6.same s8).e2,D.f2,s8.seq VJ,Ml,fun H9 s9=>⟨_,rfl,?_⟩⟩
    cases hb:bW cH d2 with
    | false=>exact bw ⟨_,rfl,wy ((if_neg (by rw[o1 (by decide)];decide)).trans (if_pos hb)) _ (s6.trans (s8.trans s9))⟩
    | true=>exact bh ⟨⟨_,_,_,rfl⟩,s8.trans s9,fun _=>o1 (by decide),fun _=>rfl,fun h=>absurd h (by decide)⟩
   | 2,_=>
    obtain⟨g1,g2⟩:=lay rfl rfl rfl
    refine⟨g1,fun w H8 hw =>?_⟩
    obtain⟨T',rfl,n8⟩:=g2 _ _ hw
    refine⟨T',_,rfl,cE.of n8.at,rfl,_,_,rfl,_,_,rfl,_,_,rfl,rfl,?_⟩
    have s8:=s7.trans n8.same
    refine⟨_,rfl,_,rfl,v3,d3,pz,bQ,rfl,(D6.same s8).e3,D.f3,s8.seq z6,My,fun H9 s9=>⟨_,rfl,?_⟩⟩
    cases hb:bW bQ d3 with
    | false=>exact bw ⟨_,rfl,wy ((if_neg (by rw[o1 (by decide)];decide)).trans ((if_neg (by rw[o2 (by decide)];decide)).trans (if_pos hb))) _ (s6.trans (s8.trans s9))⟩
    | true=>exact bh ⟨⟨_,_,_,rfl⟩,s8.trans s9,fun _=>o1 (by decide),fun _=>o2 (by decide),fun _=>rfl⟩
  ·rintro σ H7 ⟨⟨x2,x3,x4,rfl⟩,s7,o1,o2,o3⟩
   exact⟨⟨_,aM.of (s7 _ _ a5),Jd _⟩,nx _ _ ⟨⟨_,_,_,rfl⟩,s6.trans s7,o1 (by decide),o2 (by decide),o3 (by decide)⟩⟩
 rintro σ H7 ⟨⟨x2,x3,x4,rfl⟩,s7,o1,o2,o3⟩
 have wy:∀{y:Option Str},zQ d1 d4 d5=y->∀H',ak H H'->Q (uz y) H':=fun e H' sm=>wy ((if_neg (by rw[o1];decide)).trans ((if_neg (by rw[o2];decide)).trans ((if_neg (by rw[o3];decide)).trans e))) H' sm
 have D7:=D.same s7
 have M5:=s7.seq hl
 refine⟨_,rfl,.inl ⟨lp,_,_,v4,rfl,rfl,M5,rfl,v4,d4,2,8,rfl,D7.e4,_,rfl,?_⟩⟩
 have e4:B7 2 8 d4=uk d4:=by cases d4<;>rfl
 rw[e4]
 cases h4:uk d4 with
 | false=>exact bw (wy (if_pos h4) _ s7)
 | true=>
 obtain⟨i,rfl⟩:∃i,d4 = .int i:=by cases d4<;>first|exact⟨_,rfl⟩|cases h4
 have wy:∀{y:Option Str},(if Aq d1 (.int i) d5=false then some (Str.ofString "far") else none)=y->∀H',ak H H'->Q (uz y) H':=fun e H' sm=>wy ((if_neg (by rw[h4];decide)).trans e) H' sm
 have SV:v4 = .int i:=by have:=D.e4;unfold Den at this;exact this
 subst SV
 refine bh ?_
 dsimp only[eG]
 refine⟨_,rfl,.inl ⟨lp,_,_,v5,rfl,rfl,M5,rfl,_,rfl,.inl ⟨lp,_,_,.int i,rfl,rfl,M5,rfl,.inl ⟨_,_,rfl,rfl,v5,d5,_,16,rfl,D7.e5,_,rfl,?_⟩⟩⟩⟩
 cases h5:B7 (i+1) 16 d5 with
 | false=>
  refine bw (wy (if_pos ?_) _ s7)
  cases d5 with
  | int j=>
   show(decide (i<j)&&(decide (j<=16) && !gO (cf (fm d1)) i j))=false
   have h5:(decide (i+1<=j)&&decide (j<=16))=false:=h5
   rw[<-Bool.and_assoc,show decide (i<j)=decide (i+1<=j) from rfl,h5,U9]
  | _=>rfl
 | true=>
 obtain⟨j,rfl⟩:∃j,d5 = .int j:=by cases d5<;>first|exact⟨_,rfl⟩|cases h5
 have UH:v5 = .int j:=by have:=D.e5;unfold Den at this;exact this
 subst UH
 have bo:cq (fm d1)=true/\((cf (fm d1)).map (·.1)).Perm aG:=by
  have z:=o1
  unfold bW at z
  rw[Jw,Jw] at z
  exact⟨z.1,of_decide_eq_true z.2.1⟩
 obtain⟨eb,_⟩:=rn bo.1
 have pA:=bo.2.length_eq
 rw[Je] at pA
 have fD:Aq d1 (.int i) (.int j) = !gO (cf (fm d1)) i j:=by
  show(decide (i<j)&&(decide (j<=16) && !gO (cf (fm d1)) i j))=_
  have h5:(decide (i+1<=j)&&decide (j<=16))=true:=h5
  rw[<-Bool.and_assoc,show decide (i<j)=decide (i+1<=j) from rfl,h5,U3]
 rw[fD] at wy
 have cl:=D.f1.cd
 have nd:((cf (fm d1)).map (·.1)).Nodup:=bo.2.nodup_iff.mpr cI
 have hk:∀x∈aG,x∈(cf (fm d1)).map (·.1):=fun x hx=>bo.2.mem_iff.mpr hx
 obtain⟨p,as,ev1,sq,al,hT⟩:=xu D7.e1 eb
 generalize cf (fm d1)=bk at wy cl nd hk al hT pA
 subst ev1
 have bn:(eZ bk).length=bk.length:=by unfold eZ;rw[Je]
 refine bh ?_
 dsimp only[eG]
 refine⟨_,rfl,.inl ⟨lp,_,_,_,rfl,rfl,M5,rfl,p,as,eZ bk,rfl,sq,by rw[bn];exact al,by rw[bn,pA];decide,hT,fun dd H8 n8=>gn ?_⟩⟩
 rw[kN nd] at n8
 have s8:=s7.trans n8.same
 have eF:gO bk i j=(decide (((cz bk "farjump").length:Int)+j<((cz bk "jump").length:Int)+i)||decide (((cz bk "farzero").length:Int)+j<((cz bk "zero").length:Int)+i)):=by
  unfold gO
  simp only[Wc,List.any_nil,Bool.or_false]
  rfl
 have gd:∀{Hx:Hp},Hx dd=some (.dK (eZ bk))->∀x,x∈aG->iz Hx dd (.str x) (some (.str (cz bk x))):=fun h x hx=>by
  rw[<-j4 (hk x hx)]
  exact iz.k (k := .inr x) h
 have sz:∀x,(cz bk x).length<=sizeLine:=fun x=>Jg (qF x cl) (by decide)
 dsimp only
 refine dP (t:=vH _ _ _) (fun σ H'=>ak H H'/\gO bk i j=false) (fun Nx nx =>?_) ?_
 ·refine⟨by show 2<=sizeLine;decide,fun t1 H9 n9=>⟨by show 2<=sizeLine;decide,fun t2 H10 uW=>⟨by show 2<=sizeLine;decide,fun t3 H11 n11=>⟨t3,rfl,⟨_,cE.of n11.at⟩,?_⟩⟩⟩⟩
  have L0:=n9.same.trans (uW.same.trans n11.same)
  have FR:=s8.trans L0
  refine lC (N:=2) (fun k σ H'=>(wL fun x2 x3 x4 x6 x7 x8 =>σ=[some (.ref lp),some (.ref p4),x2,x3,x4,some (.ref dd),x6,x7,x8])/\ak H11 H'/\(0<k->decide (((cz bk "farjump").length:Int)+j<((cz bk "jump").length:Int)+i)=false)/\(1<k->decide (((cz bk "farzero").length:Int)+j<((cz bk "zero").length:Int)+i)=false)) ⟨⟨_,_,_,_,_,_,rfl⟩,ak.refl _,(fun h=>absurd h (by decide)),(fun h=>absurd h (by decide))⟩ ?_ ?_
  ·rintro k σ H12 hk2 ⟨⟨x2,x3,x4,x6,x7,x8,rfl⟩,iG,o1,o2⟩
   have h3:=iG _ _ n11.at
   have h1:=iG _ _ (n11.same _ _ (uW.same _ _ n9.at))
   have h2:=iG _ _ (n11.same _ _ uW.at)
   have vD:=iG _ _ (L0 _ _ n8.at)
   have Nd:=(FR.trans iG).seq hl
   match k,hk2 with
   | 0,_=>
    refine⟨⟨_,_,cE.of h3,rfl⟩,?_⟩
    rintro w H13 ⟨rfl,hy⟩
    have e:=hy _ (cE.of h3)
    obtain rfl:V.ref t1=w:=Option.some.inj e
    refine⟨t1,_,rfl,cE.of h1,rfl,_,_,rfl,_,_,rfl,rfl,?_⟩
    refine⟨_,rfl,_,rfl,dd,_,rfl,gd vD "jump" (by decide +kernel),_,_,rfl,⟨sz _,rfl⟩,_,rfl,.inl ⟨lp,_,_,.int i,rfl,rfl,Nd,rfl,.inl ⟨_,_,rfl,rfl,gn ?_⟩⟩⟩
    refine⟨_,rfl,_,rfl,dd,_,rfl,gd vD "farjump" (by decide +kernel),_,_,rfl,⟨sz _,rfl⟩,_,rfl,.inl ⟨lp,_,_,.int j,rfl,rfl,Nd,rfl,.inl ⟨_,_,rfl,rfl,_,rfl,_,_,rfl,rfl,_,rfl,cL (fun c =>?_) (fun c =>?_)⟩⟩⟩
    ·refine wy (if_pos ?_) _ (FR.trans iG)
     rw[eF,c]
     rfl
    ·exact⟨⟨_,_,_,_,_,_,rfl⟩,iG,fun _=>Uv.mpr c,fun h=>absurd h (by decide)⟩
   | 1,_=>
    refine⟨⟨_,_,cE.of h3,rfl⟩,?_⟩
    rintro w H13 ⟨rfl,hy⟩
    have e:=hy _ (cE.of h3)
    obtain rfl:V.ref t2=w:=Option.some.inj e
    refine⟨t2,_,rfl,cE.of h2,rfl,_,_,rfl,_,_,rfl,rfl,?_⟩
    refine⟨_,rfl,_,rfl,dd,_,rfl,gd vD "zero" (by decide +kernel),_,_,rfl,⟨sz _,rfl⟩,_,rfl,.inl ⟨lp,_,_,.int i,rfl,rfl,Nd,rfl,.inl ⟨_,_,rfl,rfl,gn ?_⟩⟩⟩
    refine⟨_,rfl,_,rfl,dd,_,rfl,gd vD "farzero" (by decide +kernel),_,_,rfl,⟨sz _,rfl⟩,_,rfl,.inl ⟨lp,_,_,.int j,rfl,rfl,Nd,rfl,.inl ⟨_,_,rfl,rfl,_,rfl,_,_,rfl,rfl,_,rfl,cL (fun c =>?_) (fun c =>?_)⟩⟩⟩
    ·refine wy (if_pos ?_) _ (FR.trans iG)
     rw[eF,c]
     rw[Bool.or_true];rfl
    ·exact⟨⟨_,_,_,_,_,_,rfl⟩,iG,fun _=>o1 (by decide),fun _=>Uv.mpr c⟩
  ·rintro σ H12 ⟨⟨x2,x3,x4,x6,x7,x8,rfl⟩,iG,o1,o2⟩
   refine⟨⟨_,cE.of (iG _ _ n11.at),Jd _⟩,nx _ _ ⟨FR.trans iG,?_⟩⟩
   rw[eF,o1 (by decide),o2 (by decide)]
   rfl
 ·rintro σ H9 ⟨s9,hF⟩
  exact wy (if_neg (by rw[hF];decide)) _ s9
end
structure Mx (K:Ja)(G:Hp)(zs:List (PyData×V)):Prop where
 pA:zs.length<=64
 d:∀z∈zs,Den K G z.1 z.2
 sh:∀z∈zs,Sh 2 z.1
theorem og {α:Type}:∀{l:List α} {k:Nat} {z: α},l[k]? = some z->(z::l.eraseIdx k).Perm l
 | [],_,_,h=>by cases h
 | x::l,0,z,h=>by
  cases h
  exact List.Perm.refl _
 | x::l,k+1,z,h=>by
  have ih:=og (l:=l) (k:=k) (z:=z) h
  exact(List.Perm.swap x z _).trans (ih.cons x)
def xP (K:Ja):Sp:=fun vs H Q _=>wL fun(b c p:Addr) (t:Int) (G:Hp) (zs:List (PyData×V))=>vs=[.ref b,.ref p]/\Bx H b c t/\0<=t/\t<50000000/\ak G (dN H b c)/\(aM K H p (zs.map (·.2))∨cE K H p (zs.map (·.2)))/\Mx K G zs /\
 ∀(l:Addr) (zr:List (PyData×V)) (H':Hp) (t':Int),zr.Perm zs->H l=none->H' l=some (.lst (zr.map (·.2)))->Step b c H H' t t' 64->Q (.ref l) H'
section
variable {P:Program}{w:World}{K:Ja}{mg:Str->Option Value}{base:Heap}{f:Addr}{fd:FuncData}
theorem hW:aR ["_law_state", "_law_some", "_law_rest", "_law_found"] ["_law_state", "_law_some"] (av (top iJ)):=⟨rfl,rfl,rfl,by decide +kernel,rfl,by decide +kernel,by decide +kernel⟩
theorem A2 (F:cR K "_law_mixed" "_law_mixed" (top iJ) f fd)(T:Nm mg)(aw:Fn P w K mg base 1 "_law_take" ["_law_state", "_law_many"] oX):bC P w K mg base gG 2 f fd ["_law_state", "_law_some"] (xP K):=by
 refine F.ok hW (fun vs H Q E h =>?_) (fun dI A outer s H vs Q E hr h =>?_)
 ·obtain⟨b,c,p,t,G,zs,rfl,_⟩:=h
  rfl
 obtain⟨b,c,p,t,G,zs,rfl,bx,t0,t1,hG,hs,M,q⟩:=h
 have cY:=hr.units
 refine⟨_,(af (aL (i:=2) hW.nd rfl (Or.inl rfl) (ba (mi K) rfl T.n_list (by rfl) (aa (pv 1) ae)))
  (af (aL (i:=3) hW.nd rfl (Or.inl rfl) (eY ae))
  (af (su PassesOwn.never (aK (zj K cY) (pv 2) (eY ae) (aH _)) (ag (kE (yN K PySem.F.plainAttrs_list PySem.F.slot_list_append PySem.F.type_list_append Ew (pv 3) (aa (yN K PySem.F.plainAttrs_list PySem.F.slot_list_pop PySem.F.type_list_pop HM (pv 2) (aa (aO (aw.mono (by decide)) hr rfl (aa (pv 0) (aa (ai (dQ K) rfl T.n_len (by rfl) (aa (pv 2) ae)) ae))) ae)) ae)))))
  (ag (aB (pv 3)))))),?_⟩
 refine⟨_,rfl,p,_,rfl,hs,fun p1 H1 n1=>gn ⟨by show 0<=sizeLine;decide,fun p2 H2 n2=>gn ?_⟩⟩
 dsimp only
 have Bk:=n1.nn
 have si:H p2=none:=n1.back n2.nn
 have RN:p2≠p1:=fun z=>by have:=n2.nn;rw[z,n1.at] at this;cases this
 obtain⟨b1,c1⟩:=bx.aW Bk
 obtain⟨b2,c2⟩:=bx.aW si
 have da:Step b c H H2 t t 0:=Step.same bx (n1.same.trans n2.same)
 have zl:=M.pA
 refine dP (t:=rG _ _) (fun σ H'=>∃(fs:List (PyData×V)) (t':Int),σ=[some (.ref b),some (.ref p),some (.ref p1),some (.ref p2)]/\fs.Perm zs/\Step b c H H' t t' 64/\H' p2=some (.lst (fs.map (·.2)))) (fun Nx nx =>?_) ?_
 ·refine xZ (fun m σ H'=>∃(rs fs:List (PyData×V)) (t':Int),m=rs.length /\ σ=[some (.ref b),some (.ref p),some (.ref p1),some (.ref p2)]/\(rs++fs).Perm zs/\Step b c H H' t t' (64-rs.length)/\H' p1=some (.lst (rs.map (·.2)))/\H' p2=some (.lst (fs.map (·.2)))) ⟨_,zs,[],t,rfl,rfl,by rw[Yg],da.more (by omega),n2.same _ _ n1.at,n2.at⟩ ?_
  rintro m σ H3 ⟨rs,fs,t3,rfl,rfl,pm,bJ,hr3,hf3⟩
  have Nf:=bJ.ub
  have Nk:=bJ.le
  have rl:=pm.length_eq
  rw[Jq] at rl
  have G3:ak G H3:=fun a o e=>(cA (bJ.sm _ _ (hG _ _ e))).1
  have mem:∀z∈rs,z∈zs:=fun z hz=>pm.mem_iff.mp (Yv _ hz)
  refine⟨_,rfl,by show 0<=sizeLine;decide,fun pe H4 n4 =>.inr ⟨.list (rs.map (·.1)),.list [],Den.list (aM.of (n4.same _ _ hr3)) (au.of_get (by rw[Je,Je]) fun j d v hd hv =>?_),Den.list (aM.of n4.at) (Den.strs []),(Sh.list (n:=2) fun d hd =>?_).shaped (by decide),by decide +kernel,_,rfl,?_⟩⟩
  ·rw[Jl] at hd hv
   cases e:rs[j]? with
   | none=>rw[e] at hd;cases hd
   | some z=>
    rw[e] at hd hv
    cases hd;cases hv
    exact(M.d z (mem z (Ju e))).same (G3.trans n4.same)
  ·obtain⟨z,hz,rfl⟩:=Ur.mp hd
   exact M.sh z (mem z hz)
  rw[xv]
  have cn:=bJ.bD n4
  have PY:=n4.same _ _ hr3
  have Qz:=n4.same _ _ hf3
  cases rs with
  | nil=>exact bh (nx _ _ ⟨fs,t3,rfl,pm,cn.more (by simp),Qz⟩)
  | cons r0 rs0=>
   generalize hrs:r0::rs0=rs at *
   have pos:1<=rs.length:=by rw[<-hrs];exact Y9 (Uw _)
   have em:(rs.map (·.1)).isEmpty=false:=by rw[<-hrs];rfl
   rw[em]
   refine bw ⟨fun σ' H'=>∃m',m'<rs.length/\_,fun _ _ h=>h,?_⟩
   have small:∀{n:Nat},n<=10000->n<sizeLine:=fun h=>J3 h (by decide)
   have vl:(rs.map (·.2)).length=rs.length:=Je _
   refine⟨_,rfl,.inl ⟨rfl,_,aM.of Qz⟩,_,rfl,.inl ⟨rfl,_,aM.of PY⟩,_,rfl,_,rfl,_,_,rfl,.inl ⟨_,aM.of PY,rfl⟩,b,c,t3,_,rfl,cn.bx,by omega,by omega,by omega,by omega,fun a H5 a0 a1 bX =>?_⟩
   have UT:=bX.old PY b1 c1
   have VS:=bX.old Qz b2 c2
   have bX:=cn.trans bX
   obtain⟨z,hz⟩:∃z,rs[a.toNat]? = some z:=⟨_,Jc (by omega)⟩
   refine⟨p1,_,a,z.2,rfl,rfl,UT,a0,by omega,by rw[Jl,hz];rfl,fun H6 c6 =>?_⟩
   have Vw:H6 p2=some (.lst (fs.map (·.2))):=by rw[c6.ne RN];exact VS
   refine⟨p2,_,_,rfl,rfl,Vw,small (by rw[Je];omega),fun H7 c7 =>?_⟩
   have le:(rs.eraseIdx a.toNat).length=rs.length-1:=List.length_eraseIdx_of_lt (by omega)
   refine⟨(rs.eraseIdx a.toNat).length,by omega,rs.eraseIdx a.toNat,fs++[z],t3+1,rfl,rfl,?_,((bX.my c6 Bk b1 c1).my c7 si b2 c2).more (by omega),?_,?_⟩
   ·refine List.Perm.trans ?_ pm
    have h1:=og hz
    refine List.Perm.trans ?_ (h1.append_right fs)
    rw[<-List.append_assoc]
    exact List.perm_append_singleton z _
   ·rw[c7.ne RN.symm,c6.at]
    congr 2
    rw[Yt,Yt,Ue,List.map_take,List.map_drop]
   ·rw[c7.at,Ue];rfl
 rintro σ H3 ⟨fs,t3,rfl,pm,bJ,hf3⟩
 exact⟨_,rfl,q p2 fs H3 t3 pm si hf3 bJ⟩
end
noncomputable def Ib (most:Nat)(cs:List Str):Nat:=(cs.map fun x=>2^(most-x.length)).sum
structure Cs (most:Nat)(cs:List Str):Prop where
 free:fg cs
 bin:∀x∈cs,uE x
 le:∀x∈cs,x.length<=most
 full:Ib most cs=2^most
theorem Eg {most:Nat}{cs ds:List Str}(h:cs.Perm ds):Ib most cs=Ib most ds:=(h.map _).sum_nat
theorem Cs.one {most:Nat}:Cs most [Str.empty]:=⟨List.pairwise_singleton _ _,fun x hx=>by rw[Uc.mp hx];exact fun c hc=>by simp[Str.empty] at hc,fun x hx=>by rw[Uc.mp hx];exact Uw _,by unfold Ib;rw[Ub,List.map_nil,List.sum_cons,List.sum_nil];show 2^(most-0)+0=2^most;rw[Nat.sub_zero,Nat.add_zero]⟩
theorem tm {most:Nat}:∀{cs:List Str},(∀x∈cs,most<=x.length)->Ib most cs=cs.length
 | [],_=>rfl
 | x::cs,h=>by
  have ih:=tm (cs:=cs) fun y hy=>h y (Jo _ hy)
  unfold Ib at ih ⊢
  rw[Ub,List.sum_cons,ih,show most-x.length=0 from Nat.sub_eq_zero_of_le (h x Js),J0]
  omega
theorem Cs.short {most:Nat}{cs:List Str}(h:Cs most cs)(hl:cs.length<2^most):∃x∈cs,x.length<most:=by
 apply Classical.byContradiction
 intro n
 have:=tm (most:=most) (cs:=cs) fun x hx=>Nat.le_of_not_lt fun z=>n ⟨x,hx,z⟩
 rw[h.full] at this
 omega
theorem nI (y z:Str):(y++z).length=y.length+z.length:=by
 show(y.cps++z.cps).size=_
 rw[Array.size_append];rfl
theorem Cs.part {most:Nat}{cs:List Str}{y:Str}(h:Cs most cs)(hy:y∈cs)(hl:y.length<most):Cs most (cs.erase y++[y++s0,y++s1]):=by
 have pm:cs.Perm (y::cs.erase y):=List.perm_cons_erase hy
 have l0:(y++s0).length=y.length+1:=nI _ _
 have l1:(y++s1).length=y.length+1:=nI _ _
 have sub:∀x∈cs.erase y,x∈cs:=fun x hx=>List.mem_of_mem_erase hx
 refine⟨?_,fun x hx =>?_,fun x hx =>?_,?_⟩
 ·have:=fg.split (A:=[]) (B:=cs.erase y) (x:=y) (h.free.perm pm)
  exact this.perm List.perm_append_comm
 ·rcases Us.mp hx with hx|hx
  ·exact h.bin x (sub x hx)
  ·have hb:=h.bin y hy
   simp only[Jm,J7,or_false] at hx
   rcases hx with rfl|rfl
   ·intro c hc
    rw[show(y++s0).cps.toList=y.cps.toList++[48] from bM y s0] at hc
    rcases Us.mp hc with hc|hc
    ·exact hb c hc
    ·exact .inl (Uc.mp hc)
   ·intro c hc
    rw[show(y++s1).cps.toList=y.cps.toList++[49] from bM y s1] at hc
    rcases Us.mp hc with hc|hc
    ·exact hb c hc
    ·exact .inr (Uc.mp hc)
 ·rcases Us.mp hx with hx|hx
  ·exact h.le x (sub x hx)
  ·simp only[Jm,J7,or_false] at hx
   rcases hx with rfl|rfl<;>omega
 ·have e:=h.full
  rw[Eg pm] at e
  unfold Ib at e ⊢
  rw[Ub,List.sum_cons] at e
  rw[Ue,List.sum_append,Ub,Ub,List.map_nil,List.sum_cons,List.sum_cons,List.sum_nil,l0,l1]
  have:2^(most-y.length)=2^(most-(y.length+1))+2^(most-(y.length+1)):=by
   rw[show most-y.length=(most-(y.length+1))+1 by omega,Nat.pow_succ]
   omega
  omega
theorem fg.longer {fs gs:List Str}(h:fg fs)(hl:gs.length=fs.length)(he:∀(j:Nat) y,gs[j]? = some y->∃x u,fs[j]? = some x/\y=x++u):fg gs:=by
 have h:=Uq.mp h
 refine Uq.mpr fun i j hi hj mL =>?_
 obtain⟨x,u,hx,ex⟩:=he i gs[i] (Jc hi)
 obtain⟨y,v,hy,ey⟩:=he j gs[j] (Jc hj)
 obtain⟨uQ,rfl⟩:=Jp.mp hx
 obtain⟨Dc,rfl⟩:=Jp.mp hy
 rw[ex,ey]
 exact(h i j uQ Dc mL).ext
theorem xQ:uE (Str.ofString ""):=fun c hc=>by
 rw[show(Str.ofString "").cps.toList=[] by decide +kernel] at hc
 cases hc
def Ca:Sp:=fun vs H Q _=>uR fun(b c:Addr) (t:Int) (many most:Nat)=>vs=[.ref b,.int (many:Nat),.int (most:Nat)]/\Bx H b c t/\0<=t/\t<40000000/\2<=many/\many<=20/\many<=2^most/\most<=12 /\
 ∀(l:Addr) (cs:List Str) (H':Hp) (t':Int),cs.length=many->fg cs->(∀x∈cs,uE x/\x.length<=most+2)->H l=none->H' l=some (.lst (cs.map V.str))->Step b c H H' t t' 200->Q (.ref l) H'
section
variable {P:Program}{w:World}{K:Ja}{mg:Str->Option Value}{base:Heap}{f:Addr}{fd:FuncData}
theorem dg:aR ["_law_state", "_law_many", "_law_most", "_law_found", "_law_short", "_law_code"] ["_law_state", "_law_many", "_law_most"] (av (top jg)):=⟨rfl,rfl,rfl,by decide +kernel,rfl,by decide +kernel,by decide +kernel⟩
theorem GN (F:cR K "_law_codes" "_law_codes" (top jg) f fd)(T:Nm mg)(aw:Fn P w K mg base 1 "_law_take" ["_law_state", "_law_many"] oX)(fc:Fn P w K mg base 2 "_law_mixed" ["_law_state", "_law_some"] (xP K)):bC P w K mg base gG 3 f fd ["_law_state", "_law_many", "_law_most"] Ca:=by
 refine F.ok dg (fun vs H Q E h =>?_) (fun dI A outer s H vs Q E hr h =>?_)
 ·obtain⟨b,c,t,many,most,rfl,_⟩:=h
  rfl
 obtain⟨b,c,t,many,most,rfl,bx,t0,t1,m2,m20,mm,m12,q⟩:=h
 have cY:=hr.units
 refine⟨_,(af (aL (i:=3) dg.nd rfl (Or.inl rfl) (eY (aa aD ae)))
  (af (su PassesOwn.never (aK nC (ai (dQ K) rfl T.n_len (by rfl) (aa (pv 3) ae)) (pv 1) (aH _)) (af (nz (i:=4) dg.nd rfl (Or.inl rfl) rfl (cP (Nc:=["_law_code"]) (Fc:=["_law_most"]) (js:=[2])) (AA K (pv 3)) (cc (i:=0) (n:=1) (by decide)) (fun _ _ _ _ _=>(aU (i:=0) (rY ["_law_code", "_law_most"]) rfl (Or.inl rfl))) (fun _ _ _ _ _=>(Eb (aK nC (ai (dQ K) rfl T.n_len (by rfl) (aa (pv 0) ae)) (pv 1) (aH _)))) (fun _ _ _ _ _=>(pv 0)))
  (af (aL (i:=5) dg.nd rfl (Or.inl rfl) (aV (eB K) (pv 4) (aO (aw.mono (by decide)) hr rfl (aa (pv 0) (aa (ai (dQ K) rfl T.n_len (by rfl) (aa (pv 4) ae)) ae))) (fun _ _=>rfl)))
  (af (kE (yN K PySem.F.plainAttrs_list PySem.F.slot_list_remove PySem.F.type_list_remove EI (pv 3) (aa (pv 5) ae)))
  (ag (aL (i:=3) dg.nd rfl (Or.inl rfl) (aQ cp (pv 3) (eY (aa (aQ cp (pv 5) aD) (aa (aQ cp (pv 5) aD) ae))))))))))
  (af (aX (aK (jM K cY) (aO (aw.mono (by decide)) hr rfl (aa (pv 0) (aa ah ae))) ah (aH _)) (ag (nz (i:=3) dg.nd rfl (Or.inl rfl) rfl (cP (Nc:=["_law_code"]) (Fc:=["_law_state"]) (js:=[0])) (AA K (pv 3)) (cc (i:=0) (n:=1) (by decide)) (fun _ _ _ _ _=>(aU (i:=0) (rY ["_law_code", "_law_state"]) rfl (Or.inl rfl))) (fun _ _ _ _ _=>di) (fun _ _ _ _ _=>(aQ cp (pv 0) (aV (eB K) (eY (aa aD (aa aD (aa aD (aa aD (aa aD ae)))))) (aO (aw.mono (by decide)) hr rfl (aa (pv 1) (aa ah ae))) (fun _ _=>rfl)))))) aN)
  (ag (aB (aO (fc.mono (by decide)) hr rfl (aa (pv 0) (aa (pv 3) ae)))))))),?_⟩
 refine⟨by show 1<=sizeLine;decide,fun l0 H1 n1=>gn ?_⟩
 dsimp only
 have small:∀{n:Nat},n<=10000->n<sizeLine:=fun h=>J3 h (by decide)
 refine dP (t:=rG _ _) (fun σ H'=>∃(cs:List Str) (l:Addr) (t':Int) (x4 x5:Option V),σ=[some (.ref b),some (.int (many:Nat)),some (.int (most:Nat)),some (.ref l),x4,x5]/\cs.length=many/\Cs most cs/\H l=none/\H' l=some (.lst (cs.map V.str))/\Step b c H H' t t' 20) (fun Nx nx =>?_) ?_
 ·refine xZ (fun m σ H'=>∃(cs:List Str) (l:Addr) (t':Int) (x4 x5:Option V),m=many-cs.length /\ σ=[some (.ref b),some (.int (many:Nat)),some (.int (most:Nat)),some (.ref l),x4,x5]/\cs.length<=many/\Cs most cs/\H l=none/\H' l=some (.lst (cs.map V.str))/\Step b c H H' t t' cs.length) ⟨_,[Str.empty],l0,t,_,_,rfl,rfl,by show 1<=many;omega,Cs.one,n1.nn,n1.at,(Step.same bx n1.same).more (by decide)⟩ ?_
  rintro m σ H3 ⟨cs,l,t3,x4,x5,rfl,rfl,cm,C,hl,vi,bJ⟩
  have Nf:=bJ.ub
  have Nk:=bJ.le
  have vl:(cs.map V.str).length=cs.length:=Je _
  obtain⟨lb,lc⟩:=bx.aW hl
  refine⟨_,rfl,_,_,rfl,.inl ⟨_,aM.of vi,rfl⟩,_,rfl,_,_,rfl,rfl,_,rfl,?_⟩
  refine cL (fun c1 =>?_) (fun c1 =>?_)
  ·have c1:cs.length<many:=by have:=of_decide_eq_true c1;omega
   refine⟨fun σ' H'=>∃m',m'<many-cs.length/\_,fun _ _ h=>h,?_⟩
   refine⟨_,rfl,l,rfl,⟨_,aM.of vi⟩,?_⟩
   refine dj (N:=cs.length) (fun i ys H'=>H'=H3/\ys=((cs.take i).filter fun x=>decide (x.length<most)).map V.str) ⟨rfl,rfl⟩ ?_ ?_
   ·rintro i ys H' Ny hi ⟨rfl,rfl⟩ ny
    have hx:(cs.map V.str)[i]? = some (.str cs[i]):=by rw[Jl,Jc hi];rfl
    have xl:=C.le cs[i] (Jx hi)
    have fl:((cs.take i).filter fun x=>decide (x.length<most)).length<=20:=Jg (List.length_filter_le _ _) (by rw[Um];omega)
    refine⟨⟨_,_,aM.of vi,hx⟩,small (by rw[Je];omega),?_⟩
    rintro x' H4 ⟨rfl,hy⟩
    have e:=hy _ (aM.of vi)
    rw[hx] at e;cases e
    refine gn ?_
    refine⟨_,rfl,_,_,rfl,⟨Uz (small (by omega)),rfl⟩,_,rfl,_,_,rfl,rfl,_,rfl,?_⟩
    have Fx:∀ys',ys'=((cs.take (i+1)).filter fun x=>decide (x.length<most)).map V.str->Ny ys' H4:=fun ys' e=>ny _ _ ⟨rfl,e⟩
    rw[Ul hi,List.filter_append,Ue] at Fx
    refine cL (fun c2 =>?_) (fun c2 =>?_)
    ·have c2:cs[i].length<most:=by have:=of_decide_eq_true c2;omega
     refine⟨_,rfl,Fx _ ?_⟩
     rw[List.filter_cons_of_pos (by exact decide_eq_true c2)]
     rfl
    ·have c2:¬cs[i].length<most:=fun z=>c2 (decide_eq_true (by omega))
     refine Fx _ ?_
     rw[List.filter_cons_of_neg (by rw[decide_eq_false c2];decide)]
     exact(Yg _).symm
   rintro ys H4 ⟨rfl,rfl⟩
   refine⟨⟨_,aM.of vi,by rw[vl];exact Jd _⟩,?_⟩
   rw[Wa]
   obtain⟨y0,hy0,ly0⟩:=C.short (by omega)
   have JE:∀y∈cs.filter fun x=>decide (x.length<most),y∈cs/\y.length<most:=fun y hy=>by
    obtain⟨z1,z2⟩:=List.mem_filter.mp hy
    exact⟨z1,of_decide_eq_true z2⟩
   have pos:1<=(cs.filter fun x=>decide (x.length<most)).length:=List.length_pos_of_mem (List.mem_filter.mpr ⟨hy0,decide_eq_true ly0⟩)
   have fl:(cs.filter fun x=>decide (x.length<most)).length<=20:=Jg (List.length_filter_le _ _) (by omega)
   generalize (cs.filter fun x=>decide (x.length<most))=sh at JE pos fl
   have vs:(sh.map V.str).length=sh.length:=Je _
   refine fun ls hls=>gn ?_
   have n4:gJ H4 ls (.lst (sh.map V.str)) (upd H4 ls (.lst (sh.map V.str))):=⟨hls,rfl⟩
   generalize upd H4 ls (.lst (sh.map V.str))=H5 at n4
   have B8:=n4.same _ _ vi
   have bX:=bJ.bD n4
   obtain⟨sb,sc⟩:=bJ.bx.aW n4.nn
   refine⟨_,rfl,_,rfl,_,rfl,_,_,rfl,.inl ⟨_,aM.of n4.at,rfl⟩,b,c,t3,_,rfl,bX.bx,by omega,by omega,by omega,by omega,fun a H6 a0 a1 fh =>?_⟩
   have Vt:=fh.old n4.at sb sc
   have Nh:=fh.old B8 lb lc
   have fh:=bX.trans fh
   obtain⟨y,hy⟩:∃y,sh[a.toNat]? = some y:=⟨_,Jc (by omega)⟩
   obtain⟨yc,yl⟩:=JE y (Ju hy)
   refine .inl ⟨ls,_,a,.str y,rfl,rfl,aM.of Vt,cV a0 (by rw[Jl,hy];rfl),gn ?_⟩
   refine⟨_,rfl,.inl ⟨rfl,_,aM.of Nh⟩,_,rfl,l,cs,y,rfl,rfl,Nh,yc,fun H7 c7 =>?_⟩
   have iD:=fh.my c7 hl lb lc
   have el:(cs.erase y).length=cs.length-1:=List.length_erase_of_mem yc
   have eg:1<=cs.length:=List.length_pos_of_mem yc
   have k0:(Str.ofString "0").length=1:=rfl
   have k1:(Str.ofString "1").length=1:=rfl
   refine⟨_,rfl,_,rfl,.inr (.inl ⟨_,_,rfl,rfl,Uz (small (by rw[k0];omega)),_,rfl,.inr (.inl ⟨_,_,rfl,rfl,Uz (small (by rw[k1];omega)),by show 2<=sizeLine;decide,fun lp H8 n8 =>.inr (.inr ⟨l,lp,_,_,rfl,rfl,n8.same _ _ c7.at,n8.at,Uz (small (by simp only[Je,J0,List.length_nil];omega)),fun l' H9 n9=>gn ?_⟩)⟩)⟩)⟩
   have nR:=(iD.bD n8).bD n9
   have cl:(cs.erase y++[y++s0,y++s1]).length=cs.length+1:=by rw[Jq,el];show cs.length-1+2=_;omega
   refine⟨many-(cs.length+1),by omega,cs.erase y++[y++s0,y++s1],l',t3+1,_,_,by rw[cl],rfl,by omega,C.part yc yl,(iD.bD n8).fresh bx n9.nn,by rw[n9.at,Ue];rfl,nR.more (by omega)⟩
  ·have c1:¬(cs.length<many):=fun z=>(Uv.mp (Uv.mpr c1)) (decide_eq_true (by omega))
   exact nx _ _ ⟨cs,l,t3,x4,x5,rfl,by omega,C,hl,vi,bJ.more (by omega)⟩
 rintro σ H3 ⟨cs,l,t3,x4,x5,rfl,cm,C,hl,vi,bJ⟩
 have Nf:=bJ.ub
 have Nk:=bJ.le
 obtain⟨lb,lc⟩:=bx.aW hl
 have vl:(cs.map V.str).length=cs.length:=Je _
 refine dP (t:=zb _ _ _) (fun σ H'=>∃(ds:List Str) (l:Addr) (t':Int) (x4 x5:Option V),σ=[some (.ref b),some (.int (many:Nat)),some (.int (most:Nat)),some (.ref l),x4,x5]/\ds.length=many/\fg ds/\(∀x∈ds,uE x/\x.length<=most+2)/\H l=none/\H' l=some (.lst (ds.map V.str))/\Step b c H H' t t' 50) (fun Nx nx =>?_) ?_
 ·refine⟨_,rfl,b,c,t3,2,rfl,bJ.bx,by omega,by omega,by omega,by omega,fun a H4 a0 a1 cn =>?_⟩
  have AR:=cn.old vi lb lc
  have cn:=bJ.trans cn
  refine .inl ⟨rfl,_,rfl,cL (fun _ =>?_) (fun _ =>?_)⟩
  ·refine⟨_,rfl,l,rfl,⟨_,aM.of AR⟩,?_⟩
   refine dj (N:=cs.length) (fun i ys H'=>∃(gs:List Str) (t':Int),ys=gs.map V.str/\gs.length=i/\(∀(j:Nat) y,gs[j]? = some y->∃x u,cs[j]? = some x/\y=x++u/\uE u/\u.length<=2)/\Step b c H H' t t' (21+i)/\H' l=some (.lst (cs.map V.str))) ⟨[],t3+1,rfl,rfl,(fun j y e=>nomatch e),cn.more (by omega),AR⟩ ?_ ?_
   ·rintro i ys H5 Ny hi ⟨gs,t5,rfl,gl,gg,bX,B8⟩ ny
    have OA:=bX.ub
    have QC:=bX.le
    have hx:(cs.map V.str)[i]? = some (.str cs[i]):=by rw[Jl,Jc hi];rfl
    refine⟨⟨_,_,aM.of B8,hx⟩,small (by rw[Je];omega),?_⟩
    rintro x' H6 ⟨rfl,hy⟩
    have e:=hy _ (aM.of B8)
    rw[hx] at e;cases e
    have xl:=C.le cs[i] (Jx hi)
    refine gn ?_
    refine⟨_,rfl,by show 5<=sizeLine;decide,fun lp H7 n7=>⟨_,rfl,b,c,t5,5,rfl,bX.bx.same n7.same,by omega,by omega,by omega,by omega,fun r H8 r0 r1 mQ =>?_⟩⟩
    obtain⟨pb,pc⟩:=bX.bx.aW n7.nn
    have L4:=mQ.old n7.at pb pc
    have UA:=mQ.old (n7.same _ _ B8) lb lc
    have mQ:=(bX.bD n7).trans mQ
    obtain⟨u,hu,bu,lu⟩:∃u:Str,([V.str "",V.str "",V.str "0",V.str "1",V.str "01"]:List V)[r.toNat]? = some (.str u)/\uE u/\u.length<=2:=by
     have:r=0∨r=1∨r=2∨r=3∨r=4:=by omega
     rcases this with rfl|rfl|rfl|rfl|rfl
     ·exact⟨"",rfl,xQ,by decide⟩
     ·exact⟨"",rfl,xQ,by decide⟩
     ·exact⟨"0",rfl,(by unfold uE;decide +kernel),by decide⟩
     ·exact⟨"1",rfl,(by unfold uE;decide +kernel),by decide⟩
     ·exact⟨"01",rfl,(by unfold uE;decide +kernel),by decide⟩
    refine .inl ⟨lp,_,r,.str u,rfl,rfl,aM.of L4,cV r0 hu,.inr (.inl ⟨_,_,rfl,rfl,Uz (small (by omega)),ny _ _ ⟨gs++[cs[i]++u],t5+1,by rw[Ue];rfl,by rw[Jq,gl];rfl,fun j y hj =>?_,mQ.more (by omega),UA⟩⟩)⟩
    by_cases hji:j<gs.length
    ·rw[Uy hji] at hj
     exact gg j y hj
    ·rw[Ux (by omega)] at hj
     have:j-gs.length=0:=by have:=(Jp.mp hj).1;simp at this;omega
     rw[this] at hj
     cases hj
     exact⟨cs[i],u,by rw[show j=i by omega];exact Jc hi,rfl,bu,lu⟩
   ·rintro ys H5 ⟨gs,t5,rfl,gl,gg,bX,B8⟩
    refine⟨⟨_,aM.of B8,by rw[vl];exact Jd _⟩,fun p6 JH=>gn ?_⟩
    have n6:gJ H5 p6 (.lst (gs.map V.str)) (upd H5 p6 (.lst (gs.map V.str))):=⟨JH,rfl⟩
    generalize upd H5 p6 (.lst (gs.map V.str))=H6 at n6
    refine nx _ _ ⟨gs,p6,t5,x4,x5,rfl,by omega,?_,fun x hx =>?_,bX.fresh bx n6.nn,n6.at,(bX.bD n6).more (by omega)⟩
    ·exact C.free.longer (by omega) fun j y hj=>by
      obtain⟨x,u,h1,h2,_⟩:=gg j y hj
      exact⟨x,u,h1,h2⟩
    ·obtain⟨j,hj,rfl⟩:=List.getElem_of_mem hx
     obtain⟨x,u,h1,h2,h3,h4⟩:=gg j _ (Jc hj)
     have xm:=Ju h1
     have xl:=C.le x xm
     rw[h2]
     refine⟨fun ch hc =>?_,by rw[nI];omega⟩
     rw[show(x++u).cps.toList=x.cps.toList++u.cps.toList from bM x u] at hc
     rcases Us.mp hc with hc|hc
     ·exact C.bin x xm ch hc
     ·exact h3 ch hc
  ·exact nx _ _ ⟨cs,l,t3+1,x4,x5,rfl,cm,C.free,fun x hx=>⟨C.bin x hx,by have:=C.le x hx;omega⟩,hl,AR,cn.more (by omega)⟩
 rintro σ H4 ⟨ds,l,t4,x4,x5,rfl,dm,fr,ok,hl,AR,cn⟩
 have RJ:=cn.ub
 have Sy:=cn.le
 obtain⟨lb,lc⟩:=bx.aW hl
 have em:(ds.map fun x=>(PyData.str x,V.str x)).map (·.2)=ds.map V.str:=by rw[Yu];rfl
 refine⟨_,rfl,_,rfl,b,c,l,t4,dN H4 b c,ds.map fun x=>(PyData.str x,V.str x),rfl,cn.bx,by omega,by omega,ak.refl _,.inl (aM.of (by rw[em];exact AR)),⟨by rw[Je];omega,fun z hz =>?_,fun z hz =>?_⟩,fun l5 zs H5 t5 pm hn h5 bX =>?_⟩
 ·obtain⟨x,_,rfl⟩:=Ur.mp hz
  show Den K _ (.str x) (.str x)
  unfold Den
  rfl
 ·obtain⟨x,hx,rfl⟩:=Ur.mp hz
  exact Sh.str (dW fun ch hc=>by rcases(ok x hx).1 ch hc with rfl|rfl<;>decide)
 ·have ez:∃es:List Str,zs=es.map (fun x=>(PyData.str x,V.str x))/\es.Perm ds:=by
   refine⟨zs.map fun z=>match z.1 with | .str x=>x|_=>Str.empty,?_,?_⟩
   ·rw[Yu]
    refine(List.map_id zs).symm.trans (Y6 fun z hz =>?_)
    obtain⟨x,_,rfl⟩:=Ur.mp (pm.mem_iff.mp hz)
    rfl
   ·have:=pm.map fun z:PyData×V=>match z.1 with | .str x=>x|_=>Str.empty
    rw[Yu] at this
    refine this.trans ?_
    rw[show(ds.map ((fun z:PyData×V=>match z.1 with | .str x=>x|_=>Str.empty)∘fun x=>(PyData.str x,V.str x)))=ds from(Y6 fun x _=>rfl).trans (List.map_id ds)]
  obtain⟨es,rfl,pe⟩:=ez
  refine q l5 es H5 t5 (by rw[pe.length_eq,dm]) (fr.perm pe.symm) (fun x hx=>ok x (pe.mem_iff.mp hx)) (cn.fresh bx hn) ?_ ((cn.trans bX).more (by omega))
  rw[h5,Yu]
  rfl
end
noncomputable abbrev dH (q:Str×Str):PyData := .tuple [.str q.1,.str q.2]
theorem lR:∀{ns cs:List Str} {k:Nat} {x c:Str},ns.Nodup->ns[k]? = some x->cs[k]? = some c->cz (ns.zip cs) x=c
 | [],_,_,_,_,_,h,_=>nomatch h
 | _::_,[],_,_,_,_,_,h=>nomatch h
 | n::ns,c0::cs,0,x,c,_,h1,h2=>by
  cases h1;cases h2
  show(if n=n then c0 else _)=c0
  exact if_pos rfl
 | n::ns,c0::cs,k+1,x,c,nd,h1,h2=>by
  obtain⟨n1,n2⟩:=Yq.mp nd
  have hx:x∈ns:=Ju (show ns[k]? = some x from h1)
  show(if n=x then c0 else cz (ns.zip cs) x)=c
  rw[if_neg (fun z=>n1 (by rw[z];exact hx))]
  exact lR n2 h1 h2
theorem xx:∀{ns cs:List Str} {k:Nat} {x y:Str},ns.Nodup->ns.length=cs.length->ns[k]? = some x->(eZ (ns.zip cs)).map (fun kv=>if kv.1=Sum.inr x then (kv.1,V.str y) else kv)=eZ (ns.zip (cs.set k y))
 | [],_,_,_,_,_,_,h=>nomatch h
 | _::_,[],_,_,_,_,h,_=>nomatch h
 | n::ns,c::cs,0,x,y,nd,hl,h=>by
  cases h
  obtain⟨n1,n2⟩:=Yq.mp nd
  show(if (Sum.inr n:Key)=Sum.inr n then ((Sum.inr n:Key),V.str y) else _)::(eZ (ns.zip cs)).map _=(Sum.inr n,V.str y)::eZ (ns.zip cs)
  rw[if_pos rfl]
  congr 1
  conv=>rhs;rw[<-List.map_id (eZ (ns.zip cs))]
  refine Y6 fun kv hkv=>if_neg fun z=>n1 ?_
  obtain⟨q,hq,rfl⟩:=Ur.mp hkv
  have z:q.1=n:=Sum.inr.inj z
  rw[<-z]
  exact(List.of_mem_zip hq).1
 | n::ns,c::cs,k+1,x,y,nd,hl,h=>by
  obtain⟨n1,n2⟩:=Yq.mp nd
  have hx:x∈ns:=Ju (show ns[k]? = some x from h)
  show(if (Sum.inr n:Key)=Sum.inr x then _ else ((Sum.inr n:Key),V.str c))::(eZ (ns.zip cs)).map _=(Sum.inr n,V.str c)::eZ (ns.zip (cs.set k y))
  rw[if_neg (fun z=>n1 (by rw[Sum.inr.inj z];exact hx)),xx n2 (by simpa using hl) h]
theorem fH {ns cs:List Str}(hl:ns.length=cs.length):(ns.zip cs).map (·.1)=ns:=List.map_fst_zip (by omega)
theorem yx {ns cs:List Str}(hl:ns.length=cs.length):(ns.zip cs).map (·.2)=cs:=List.map_snd_zip (by omega)
theorem EX {ns cs:List Str}{k:Nat}{x y:Str}(nd:ns.Nodup)(hl:ns.length=cs.length)(h:ns[k]? = some x):putK (eZ (ns.zip cs)) (.inr x) (.str y)=eZ (ns.zip (cs.set k y)):=by
 unfold putK
 rw[iR,j4 (by rw[fH hl];exact Ju h),if_pos (Option.isSome_some)]
 exact xx nd hl h
theorem swap_perm {cs:List Str}{i j:Nat}{a b:Str}(hi:cs[i]? = some a)(hj:cs[j]? = some b):((cs.set i b).set j a).Perm cs:=by
 obtain⟨h1,rfl⟩:=Jp.mp hi
 obtain⟨h2,rfl⟩:=Jp.mp hj
 exact List.set_set_perm h1 h2
theorem oI (bk:List (Str×Str)):cf (aI bk)=bk:=by
 show(bk.map dH).map _=bk
 rw[Yu]
 exact(Y6 fun q _=>rfl).trans (List.map_id bk)
theorem DK {y:Str}(hb:uE y)(hl:1<=y.length):cj (.str y)=true:=by
 show(!decide (V.str y=V.str (Str.ofString ""))&&fJ y dF)=true
 rw[mF,decide_eq_false (by omega),mZ,Bool.not_false,U3,Yk]
 intro c hc
 rcases hb c hc with rfl|rfl<;>decide +kernel
theorem Cr {ns:List Str}{bk:List (Str×Str)}(N:IY ns)(pm:(bk.map (·.1)).Perm ns)(hc:∀q∈bk,cj (.str q.2)=true)(fr:fg (bk.map (·.2))):bW ns (aI bk)=true:=by
 have e:=BQ (ns:=ns) (d:=aI bk) (ds:=bk.map dH) rfl (fun x hx=>by
  obtain⟨q,hq,rfl⟩:=Ur.mp hx
  exact hc q hq) N.nn N.nd N.ok
 rw[e,show cf (.list (bk.map dH))=bk from oI bk,decide_eq_true pm,U3]
 exact @decide_eq_true _ (Classical.propDecidable _) fr
theorem qW {w:Nat}:∀{bk:List (Str×Str)},(∀q∈bk,fk q.1=true/\fk q.2=true/\q.1.length+q.2.length+3<=w)->Gs (w*bk.length) 1 (bk.map dH)
 | [],_=>Gs.nil.mono (Uw _) (Uw _)
 | q::bk,h=>by
  have ih:=qW (w:=w) (bk:=bk) fun x hx=>h x (Jo _ hx)
  obtain⟨h1,h2,h3⟩:=h q Js
  have g:Gd (q.1.length+1+(q.2.length+1)) 1 (dH q):=(Gs.cons (Gd.str (dp:=0) h1 (Jd _)) (Gs.one (Gd.str h2 (Jd _)))).tuple
  refine(Gs.cons g ih).mono ?_ (Jd _)
  rw[J0,Nat.mul_succ]
  omega
theorem AD {d:PyData}{ds:List PyData}(h:fm d = .list ds):fZ d=ds.length:=by
 cases d<;>first|(cases h;rfl)|(exact nomatch h)
theorem Ee.of {d:PyData}{w dp:Nat}(g:Gd w dp d)(hw:w<=150000)(hd:dp<=64)(hl:fZ d<=60):Ee d:=by
 refine⟨g.pz,Jg g.wt (by omega),g.shaped hd,fun ds e=>by rw[<-AD e];exact hl,fun q hq =>?_⟩
 have wt:(fm d).weight<=150000:=by rw[qA];exact Jg g.wt hw
 cases e:fm d with
 | list ds=>
  rw[e] at hq wt
  obtain⟨x,hx,rfl⟩:=Ur.mp (show q∈ds.map _ from hq)
  have hx:=eM (n:=150000) (by simpa only [PyData.weight] using wt) hx
  split
  ·simp only[PyData.weight,PyData.weightAll] at hx
   have:∀y:Str,y.cps.size=y.length:=fun _=>rfl
   simp only[this] at hx
   dsimp only
   omega
  ·exact Uw _
 | _=>rw[e] at hq;exact nomatch hq
theorem AM {bk:List (Str×Str)}{zs zr:List (PyData×V)}(e:zs.map (·.1)=bk.map dH)(p:zr.Perm zs):∃u0:List (Str×Str),u0.Perm bk/\zr.map (·.1)=u0.map dH:=by
 have pm:(zr.map (·.1)).Perm (bk.map dH):=by rw[<-e];exact p.map _
 refine⟨cf (.list (zr.map (·.1))),?_,?_⟩
 ·have:=oI bk
  conv=>rhs;rw[<-this]
  exact pm.map _
 ·have all:∀d∈zr.map (·.1),∃q,d=dH q:=fun d hd=>by
   obtain⟨q,_,rfl⟩:=Ur.mp (pm.mem_iff.mp hd)
   exact⟨q,rfl⟩
  generalize zr.map (·.1)=ds at all
  clear pm p e
  induction ds with
  | nil=>rfl
  | cons d ds ih=>
   obtain⟨q,rfl⟩:=all d Js
   have:=ih fun d hd=>all d (Jo _ hd)
   show dH q::ds=dH q::(cf (.list ds)).map dH
   rw[<-this]
theorem B9 {cs:List Str}(h:fg cs)(hl:2<=cs.length):∀x∈cs,1<=x.length:=fun x hx=>by
 apply Classical.byContradiction
 intro n
 have x0:sg x=[]:=Yz (by have:x.length=(sg x).length:=str_len x;omega)
 obtain⟨i,hi,rfl⟩:=Yy.mp hx
 have pw:=Uq.mp h
 by_cases i0:i=0
 ·subst i0
  have:=(pw 0 1 (by omega) (by omega) (by decide)).1
  rw[x0] at this
  exact this List.nil_prefix
 ·have:=(pw 0 i (by omega) hi (by omega)).2
  rw[x0] at this
  exact this List.nil_prefix
theorem DI {x:Str}(h:uE x):fk x=true:=jo.mpr fun c hc=>by rcases h c hc with rfl|rfl<;>decide
theorem xJ {K:Ja}{G:Hp}{bk:List (Str×Str)}{as:List Addr}(hl:as.length=bk.length)(pA:bk.length<=64)(az:∀q∈bk,fk q.1=true/\fk q.2=true)(h:∀(j:Nat) a q,as[j]? = some a->bk[j]? = some q->G a=some (.tup [.str q.1,.str q.2])):
  ∃zs:List (PyData×V),zs.map (·.1)=bk.map dH/\zs.map (·.2)=as.map V.ref/\Mx K G zs:=by
 have l1:(bk.map dH).length=(as.map V.ref).length:=by rw[Je,Je,hl]
 refine⟨(bk.map dH).zip (as.map V.ref),List.map_fst_zip (by omega),List.map_snd_zip (by omega),?_,?_,?_⟩
 ·rw[Yi,Je];omega
 ·intro z hz
  obtain⟨j,hj⟩:=U5.mp hz
  have z1:=Yn.mp hj
  rw[Jl,Jl] at z1
  obtain⟨e1,e2⟩:=z1
  cases h1:bk[j]? with
  | none=>rw[h1] at e1;cases e1
  | some q=>
   cases h2:as[j]? with
   | none=>rw[h2] at e2;cases e2
   | some a=>
    rw[h1] at e1;rw[h2] at e2
    rw[<-Option.some.inj e1,<-Option.some.inj e2]
    exact jC (h j a q h2 h1) (aE iy (aE iy er))
 ·intro z hz
  have z1:=(List.of_mem_zip (a:=z.1) (b:=z.2) hz).1
  obtain⟨q,hq,e⟩:=Ur.mp z1
  rw[<-e]
  have h1:=az q hq
  refine(fun h=>⟨h.1,Jg h.2 (by decide)⟩:Sh 1 (dH q)->Sh 2 (dH q)) (Sh.tuple (n:=0) (ds:=[.str q.1,.str q.2]) fun d hd =>?_)
  ·simp only[Jm,J7,or_false] at hd
   rcases hd with rfl|rfl
   ·exact Sh.str (dW fun ch hc=>by have:=wW h1.1 ch hc;omega)
   ·exact Sh.str (dW fun ch hc=>by have:=wW h1.2 ch hc;omega)
theorem we {K:Ja}{G G':Hp}{bk:List (Str×Str)}{zs zr:List (PyData×V)}{l:Addr}(e:zs.map (·.1)=bk.map dH)(M:Mx K G zs)(p:zr.Perm zs)(s:ak G G')(hl:G' l=some (.lst (zr.map (·.2)))):
  ∃u0:List (Str×Str),u0.Perm bk/\Den K G' (aI u0) (.ref l):=by
 obtain⟨u0,h1,h2⟩:=AM e p
 refine⟨u0,h1,Den.list (aM.of hl) ?_⟩
 show au K G' (u0.map dH) _
 rw[<-h2]
 refine au.of_get (by rw[Je,Je]) fun j d v hd hv =>?_
 rw[Jl] at hd hv
 cases ez:zr[j]? with
 | none=>rw[ez] at hd;cases hd
 | some z=>
  rw[ez] at hd hv
  cases hd;cases hv
  exact(M.d z (p.mem_iff.mp (Ju ez))).same s
structure Good3 (et ju jw:List (Str×Str))(near iB:Int):Prop where
 why:gb (aI et) (aI ju) (aI jw) (.int near) (.int iB)=none
 n1:(et.map (·.1)).Perm aG
 l1:et.length=11
 l2:ju.length=4
 l3:jw.length=9
 sz:∀q,q∈et∨q∈ju∨q∈jw->fk q.1=true/\fk q.2=true/\q.1.length<=8/\q.2.length<=11
 fr:near.natAbs<10/\iB.natAbs<20
def Cb (K:Ja):Sp:=fun vs H Q _=>mI fun(b c:Addr) (t:Int)=>vs=[.ref b]/\Bx H b c t/\0<=t/\t<30000000 /\
 ∀(l:Addr) (r1 r2 r3:V) (et ju jw:List (Str×Str)) (near iB:Int) (H':Hp) (t':Int),Good3 et ju jw near iB->H l=none->H' l=some (.lst [r1,r2,r3,.int near,.int iB])->au K (dN H' b c) [aI et,aI ju,aI jw] [r1,r2,r3]->Step b c H H' t t' 1500->Q (.ref l) H'
theorem qI {ns cs:List Str}{most:Nat}(hn:∀x∈ns,fk x=true/\x.length<=8)(hm:most<=11)(hc:∀x∈cs,uE x/\x.length<=most):∀q∈ns.zip cs,fk q.1=true/\fk q.2=true/\q.1.length<=8/\q.2.length<=11:=fun q hq=>by
 obtain⟨h1,h2⟩:=List.of_mem_zip (a:=q.1) (b:=q.2) hq
 exact⟨(hn _ h1).1,DI (hc _ h2).1,(hn _ h1).2,Jg (hc _ h2).2 hm⟩
theorem kY:(∀x∈aG,fk x=true/\x.length<=8)/\(∀x∈cH,fk x=true/\x.length<=8)/\∀x∈bQ,fk x=true/\x.length<=8:=by decide +kernel
theorem qT {ns cs:List Str}{bk:List (Str×Str)}(N:IY ns)(hl:ns.length=cs.length)(h2:2<=cs.length)(hb:∀x∈cs,uE x)(fr:fg cs)(p:bk.Perm (ns.zip cs)):bW ns (aI bk)=true:=by
 have p1:=p.map (·.1)
 have p2:=p.map (·.2)
 rw[fH hl] at p1
 rw[yx hl] at p2
 refine Cr N p1 (fun q hq =>?_) (fr.perm p2.symm)
 have Kf:q.2∈cs:=p2.mem_iff.mp (List.mem_map_of_mem hq)
 exact DK (hb _ Kf) (B9 fr h2 _ Kf)
theorem Fl {bk u0:List (Str×Str)}{x:Str}(p:u0.Perm bk)(nd:(bk.map (·.1)).Nodup)(hx:x∈bk.map (·.1)):cz u0 x=cz bk x:=by
 have Qw:=(p.map (·.1)).nodup_iff.mpr nd
 have of:∀{bs:List (Str×Str)},(bs.map (·.1)).Nodup->∀y,(x,y)∈bs->cz bs x=y:=fun{bs}=>by
  induction bs with
  | nil=>intro _ y h;exact nomatch h
  | cons q r ih=>
   intro nd y h
   rw[Ub] at nd
   obtain⟨n1,n2⟩:=Yq.mp nd
   unfold cz
   rcases Jm.mp h with e|h
   ·rw[<-e];exact if_pos rfl
   ·rw[if_neg (fun z=>n1 (by rw[z];exact List.mem_map_of_mem (f:=(·.1)) h))]
    exact ih n2 y h
 obtain⟨q,hq,rfl⟩:=Ur.mp hx
 rw[of nd q.2 hq,of Qw q.2 (p.mem_iff.mpr hq)]
theorem Cy {bk u0:List (Str×Str)}{n f:Int}(p:u0.Perm bk)(hn:bk.map (·.1)=aG):gO u0 n f=gO bk n f:=by
 have e:∀x∈aG,cz u0 x=cz bk x:=fun x hx=>Fl p (by rw[hn];exact cI) (by rw[hn];exact hx)
 unfold gO
 simp only[Wc,List.any_nil,Bool.or_false]
 rw[e _ (by decide +kernel),e _ (by decide +kernel),e _ (by decide +kernel),e _ (by decide +kernel)]
theorem Bb {et ju jw:List (Str×Str)}{n f:Int}(h1:bW aG (aI et)=true)(h2:bW cH (aI ju)=true)(h3:bW bQ (aI jw)=true)(n2:2<=n)(n8:n<=8)(nf:n<f)(Io:f<=16)(hf:gO et n f=false):gb (aI et) (aI ju) (aI jw) (.int n) (.int f)=none:=by
 unfold gb zQ
 rw[h1,h2,h3,if_neg (by decide),if_neg (by decide),if_neg (by decide)]
 rw[show uk (.int n)=true from by show(decide (2<=n)&&decide (n<=8))=true;rw[decide_eq_true n2,decide_eq_true n8];rfl,if_neg (by decide)]
 have:Aq (aI et) (.int n) (.int f)=true:=by
  show(decide (n<f)&&(decide (f<=16) && !gO (cf (aI et)) n f))=true
  rw[oI,hf,decide_eq_true nf,decide_eq_true Io];rfl
 rw[this,if_neg (by decide)]
theorem tH {H:Hp}{dd:Addr}{ns cs:List Str}{k:Nat}{x y:Str}(h:H dd=some (.dK (eZ (ns.zip cs))))(nd:ns.Nodup)(hl:ns.length=cs.length)(hx:ns[k]? = some x)(sm:ns.length<1000):
  ∃H',oZ H dd (.dK (eZ (ns.zip (cs.set k y)))) H'/\kK H dd (.str x) (.str y) H':=by
 refine⟨_,⟨rfl⟩,?_⟩
 rw[<-EX nd hl hx]
 exact kK.k (k := .inr x) h (J3 (show(eZ (ns.zip cs)).length<=1000 by unfold eZ;rw[Je,Yi];omega) (by decide))
theorem A3 {H:Hp}{dd:Addr}{ns cs:List Str}{k:Nat}{x c:Str}(h:H dd=some (.dK (eZ (ns.zip cs))))(nd:ns.Nodup)(hl:ns.length=cs.length)(hx:ns[k]? = some x)(hc:cs[k]? = some c):iz H dd (.str x) (some (.str c)):=by
 have e:gW (eZ (ns.zip cs)) (.inr x)=some (.str c):=by rw[j4 (by rw[fH hl];exact Ju hx),lR nd hx hc]
 rw[<-e]
 exact iz.k (k := .inr x) h
theorem y9 {ns:List Str}{cs:List Str}(nd:ns.Nodup)(hl:ns.length=cs.length):cK [] ((ns.map (Sum.inr:Str->Key)).zip (cs.map V.str))=eZ (ns.zip cs):=by
 have e:(ns.map (Sum.inr:Str->Key)).zip (cs.map V.str)=eZ (ns.zip cs):=by
  unfold eZ
  rw[List.zip_map]
  rfl
 rw[e,kN (by rw[fH hl];exact nd)]
theorem El:∀(j:Nat) (c:Nat),(Str.ofString "abcd").cps[j]? = some c->cH[j]? = some ⟨#[c]⟩:=by
 intro j c h
 have hj:j<4:=(Yb.mp h).1
 match j,hj with
 | 0,_=>cases h;rfl
 | 1,_=>cases h;rfl
 | 2,_=>cases h;rfl
 | 3,_=>cases h;rfl
structure tW (K:Ja)(b c:Addr)(H:Hp)(p:Addr)(bk:List (Str×Str))(as:List Addr):Prop where
 at':H p=some (.lst (as.map V.ref))
 pb:p≠b
 pc:p≠c
 len:as.length=bk.length
 prs:∀(j:Nat) a q,as[j]? = some a->bk[j]? = some q->dN H b c a=some (.tup [.str q.1,.str q.2])
theorem tW.step {K:Ja}{b c p:Addr}{H H':Hp}{t t' N:Int}{bk:List (Str×Str)}{as:List Addr}(h:tW K b c H p bk as)(s:Step b c H H' t t' N):tW K b c H' p bk as:=
 ⟨s.old h.at' h.pb h.pc,h.pb,h.pc,h.len,fun j a q e1 e2=>s.sm _ _ (h.prs j a q e1 e2)⟩
section
variable {P:Program}{w:World}{K:Ja}{mg:Str->Option Value}{base:Heap}{f:Addr}{fd:FuncData}
theorem bO:aR ["_law_state", "_law_kinds_here", "_law_near", "_law_far", "_law_one", "_law_other_here", "_law_kept", "_law_spots", "_law_sizes_here"] ["_law_state"] (av (top je)):=⟨rfl,rfl,rfl,by decide +kernel,rfl,by decide +kernel,by decide +kernel⟩
theorem AE (F:cR K "_law_parts" "_law_parts" (top je) f fd)(T:Nm mg)(fB:mg "dict" = none)(iW:Fn P w K mg base 1 "_law_kinds" [] (l8 aG))(iP:Fn P w K mg base 1 "_law_sizes" [] (l8 bQ))(aw:Fn P w K mg base 1 "_law_take" ["_law_state", "_law_many"] oX)(fc:Fn P w K mg base 2 "_law_mixed" ["_law_state", "_law_some"] (xP K))(jc:Fn P w K mg base 3 "_law_codes" ["_law_state", "_law_many", "_law_most"] Ca):bC P w K mg base gG 4 f fd ["_law_state"] (Cb K):=by
 refine F.ok bO (fun vs H Q E h =>?_) (fun dI A outer s H vs Q E hr h =>?_)
 ·obtain⟨b,c,t,rfl,_⟩:=h
  rfl
 obtain⟨b,c,t,rfl,bx,t0,t1,q⟩:=h
 have cY:=hr.units
 have hu:=ur hr
 have small:∀{n:Nat},n<=10000->n<sizeLine:=fun h=>J3 h (by decide)
 refine⟨_,(af (aL (i:=1) bO.nd rfl (Or.inl rfl) (ve rfl rfl fB rfl T.n_zip (aa (rF (iW.mono (by first|decide|exact Jd _|omega)) hr rfl) (aa (aO (jc.mono (by decide)) hr rfl (aa (pv 0) (aa ah (aa (aV (eB K) (eY (aa ah (aa ah (aa ah (aa ah ae))))) (aO (aw.mono (by decide)) hr rfl (aa (pv 0) (aa ah ae))) (fun _ _=>rfl)) ae)))) ae))))
  (af (aL (i:=2) bO.nd rfl (Or.inl rfl) (aQ cp ah (aO (aw.mono (by decide)) hr rfl (aa (pv 0) (aa ah ae)))))
  (af (aL (i:=3) bO.nd rfl (Or.inl rfl) (aQ cp (aQ cp (pv 2) ah) (aO (aw.mono (by decide)) hr rfl (aa (pv 0) (aa (aQ qM ah (pv 2)) ae)))))
  (af (ip PassesOwn.never rfl (jq K (fN (aa (fN (aa aD (aa aD ae))) (aa (fN (aa aD (aa aD ae))) ae)))) (tupK K 2 rfl (bb (aU (i:=4) bO.nd rfl (Or.inl rfl)) (bb (aU (i:=5) bO.nd rfl (Or.inl rfl)) dB))) (ag (aX (aK nC (aQ cp (ai (dQ K) rfl T.n_len (by rfl) (aa (cN hu (pv 1) (pv 5) (fun _ _=>rfl)) ae)) (pv 3)) (aQ cp (ai (dQ K) rfl T.n_len (by rfl) (aa (cN hu (pv 1) (pv 4) (fun _ _=>rfl)) ae)) (pv 2)) (aH _)) (af (aL (i:=6) bO.nd rfl (Or.inl rfl) (cN hu (pv 1) (pv 4) (fun _ _=>rfl)))
  (af (kq hu (pv 1) (pv 4) (cN hu (pv 1) (pv 5) (fun _ _=>rfl)) rfl)
  (ag (kq hu (pv 1) (pv 5) (pv 6) rfl)))) aN)))
  (af (aL (i:=7) bO.nd rfl (Or.inl rfl) (uc rfl rfl T.n_list rfl T.n_zip (aa aD (aa (aO (jc.mono (by decide)) hr rfl (aa (pv 0) (aa ah (aa ah ae)))) ae))))
  (af (aL (i:=8) bO.nd rfl (Or.inl rfl) (wF rfl rfl T.n_list rfl T.n_zip (aa (rF (iP.mono (by first|decide|exact Jd _|omega)) hr rfl) (aa (aO (jc.mono (by decide)) hr rfl (aa (pv 0) (aa ah (aa (aV (eB K) (eY (aa ah (aa ah (aa ah ae)))) (aO (aw.mono (by decide)) hr rfl (aa (pv 0) (aa ah ae))) (fun _ _=>rfl)) ae)))) ae))))
  (ag (aB (eY (aa (aO (fc.mono (by decide)) hr rfl (aa (pv 0) (aa (qk rfl rfl T.n_list (pv 1)) ae))) (aa (aO (fc.mono (by decide)) hr rfl (aa (pv 0) (aa (pv 7) ae))) (aa (aO (fc.mono (by decide)) hr rfl (aa (pv 0) (aa (pv 8) ae))) (aa (pv 2) (aa (pv 3) ae)))))))))))))),?_⟩
 dsimp only
 refine jX (te:=Sg _ _) (fun v H'=>∃(dd:Addr) (cs:List Str) (t':Int),v = .ref dd/\cs.length=11/\fg cs/\(∀x∈cs,uE x/\x.length<=11)/\H dd=none/\H' dd=some (.dK (eZ (aG.zip cs)))/\Step b c H H' t t' 300) (fun Qn qn =>?_) ?_
 ·refine⟨rfl,fun pk H1 n1=>⟨_,rfl,by show 4<=sizeLine;decide,fun lp H2 n2=>⟨_,rfl,b,c,t,4,rfl,(bx.same n1.same).same n2.same,t0,by omega,by decide,by decide,fun r H3 r0 r1 bJ =>?_⟩⟩⟩
  obtain⟨pb,pc⟩:=bx.aW n1.nn
  obtain⟨lb,lc⟩:=(bx.same n1.same).aW n2.nn
  have Tv:=bJ.old (n2.same _ _ n1.at) pb pc
  have Az:=bJ.old n2.at lb lc
  have bJ:=(Step.same bx (n1.same.trans n2.same)).trans bJ
  obtain⟨m,hm,m4,m9⟩:∃m:Nat,([V.int 4,V.int 4,V.int 5,V.int 9]:List V)[r.toNat]? = some (.int (m:Nat))/\4<=m/\m<=9:=by
   have:r=0∨r=1∨r=2∨r=3:=by omega
   rcases this with rfl|rfl|rfl|rfl
   ·exact⟨4,rfl,by decide,by decide⟩
   ·exact⟨4,rfl,by decide,by decide⟩
   ·exact⟨5,rfl,by decide,by decide⟩
   ·exact⟨9,rfl,by decide,by decide⟩
  have mm:11<=2^m:=Jg (show 11<=2^4 by decide) (Nat.pow_le_pow_right (by decide) m4)
  refine .inl ⟨lp,_,r,.int (m:Nat),rfl,rfl,aM.of Az,cV r0 hm,b,c,t+1,11,m,rfl,bJ.bx,by omega,by omega,by decide,by decide,mm,by omega,fun l cs H4 t4 cl fr cb C4 mf cn =>?_⟩
  have Tq:=cn.old Tv pb pc
  have cn:=bJ.trans cn
  refine⟨pk,l,aG.map Sum.inr,cs.map V.str,rfl,aM.of Tq,aM.of mf,by rw[Je,Je,cl];rfl,by decide,fun d H5 n5 =>?_⟩
  rw[y9 cI (by rw[cl];rfl)] at n5
  exact qn _ _ ⟨d,cs,t4,rfl,cl,fr,fun x hx=>⟨(cb x hx).1,by have:=(cb x hx).2;omega⟩,cn.fresh bx n5.nn,n5.at,(cn.bD n5).more (by omega)⟩
 rintro v H1 ⟨dd,cs,t2,rfl,cl,fr,cb,hd0,Df,fY⟩
 obtain⟨db,dc⟩:=bx.aW hd0
 have V7:=fY.ub
 have lo1:=fY.le
 refine gn ?_
 refine⟨_,rfl,b,c,t2,7,rfl,fY.bx,by omega,by omega,by decide,by decide,fun r2 H2 r20 r21 da =>.inl ⟨_,_,rfl,rfl,gn ?_⟩⟩
 have hd2:=da.old Df db dc
 have da:=fY.trans da
 refine⟨_,rfl,.inl ⟨_,_,rfl,rfl,_,rfl,_,rfl,_,_,rfl,rfl,b,c,_,_,rfl,da.bx,by omega,by omega,by omega,by omega,fun r3 H3 r30 r31 bJ =>.inl ⟨_,_,rfl,rfl,gn ?_⟩⟩⟩
 have Eh:=bJ.old hd2 db dc
 have bJ:=da.trans bJ
 obtain⟨near,en⟩:∃near:Int,near=2+r2:=⟨_,rfl⟩
 obtain⟨iB,ef⟩:∃iB:Int,iB=2+r2+1+r3:=⟨_,rfl⟩
 rw[<-ef,<-en]
 have n2:2<=near:=by omega
 have n8:near<=8:=by omega
 have nf:near<iB:=by omega
 have Io:iB<=16:=by omega
 have kl:aG.length=cs.length:=by rw[cl];rfl
 have sz:∀{x:Str},x.length<=11->x.length<=sizeLine:=fun h=>Jg h (by decide)
 dsimp only
 refine dP (t:=vH _ _ _) (fun σ H'=>∃(iE:List Str) (x4 x5 x6:Option V) (t':Int),σ=[some (.ref b),some (.ref dd),some (.int near),some (.int iB),x4,x5,x6,none,none]/\iE.Perm cs/\H' dd=some (.dK (eZ (aG.zip iE)))/\gO (aG.zip iE) near iB=false/\Step b c H H' t t' 310) (fun Nx nx =>?_) ?_
 ·refine⟨by show 2<=sizeLine;decide,fun p1 H4 n4=>⟨by show 2<=sizeLine;decide,fun p2 H5 n5=>⟨by show 2<=sizeLine;decide,fun p3 H6 n6=>⟨p3,rfl,⟨_,cE.of n6.at⟩,?_⟩⟩⟩⟩
  have fh:=((bJ.bD n4).bD n5).bD n6
  have IU:=n6.same _ _ (n5.same _ _ (n4.same _ _ Eh))
  have h1:=n6.same _ _ (n5.same _ _ n4.at)
  have h2:=n6.same _ _ n5.at
  have h3:=n6.at
  have Pg:∀{p:Addr} {o:List V},H6 p=some (.tup o)->p≠dd:=fun h z=>by rw[z,IU] at h;cases h
  have e1:=Pg h1
  have e2:=Pg h2
  have e3:=Pg h3
  refine lC (N:=2) (fun k σ H'=>∃(iE:List Str) (x4 x5 x6:Option V),σ=[some (.ref b),some (.ref dd),some (.int near),some (.int iB),x4,x5,x6,none,none]/\iE.Perm cs/\H' dd=some (.dK (eZ (aG.zip iE)))/\(∀p,p≠dd->H' p=H6 p)/\(0<k->∀x y,iE[5]? = some x->iE[8]? = some y->¬((y.length:Int)+iB<x.length+near))/\(1<k->∀x y,iE[6]? = some x->iE[9]? = some y->¬((y.length:Int)+iB<x.length+near))/\∃t',Step b c H H' t t' 310) ⟨cs,_,_,_,rfl,List.Perm.refl _,IU,fun _ _=>rfl,(fun h=>absurd h (by decide)),(fun h=>absurd h (by decide)),_,fh.more (by omega)⟩ ?_ ?_
  ·rintro k σ H7 hk ⟨iE,x4,x5,x6,rfl,pm,ud,k7,o1,o2,t7,iD⟩
   have UE:=(k7 _ e1).trans h1
   have SH:=(k7 _ e2).trans h2
   have Nq:=(k7 _ e3).trans h3
   have SE:iE.length=11:=by rw[pm.length_eq,cl]
   have NV:aG.length=iE.length:=by rw[SE];rfl
   have Ng:∀{i:Nat} {x:Str},iE[i]? = some x->x.length<=11:=fun h=>(cb _ (pm.mem_iff.mp (Ju h))).2
   obtain⟨c5,h5⟩:∃x,iE[5]? = some x:=⟨_,Jc (by omega)⟩
   obtain⟨c6,h6⟩:∃x,iE[6]? = some x:=⟨_,Jc (by omega)⟩
   obtain⟨c8,h8⟩:∃x,iE[8]? = some x:=⟨_,Jc (by omega)⟩
   obtain⟨c9,h9⟩:∃x,iE[9]? = some x:=⟨_,Jc (by omega)⟩
   have gd:∀{i:Nat} {x y:Str},aG[i]? = some x->iE[i]? = some y->iz H7 dd (.str x) (some (.str y)):=fun hx hy=>A3 ud cI NV hx hy
   have swap:∀{i j:Nat} {x y a d:Str},aG[i]? = some x->aG[j]? = some y->iE[i]? = some a->iE[j]? = some d->∃H8 H9,kK H7 dd (.str x) (.str d) H8/\kK H8 dd (.str y) (.str a) H9/\H9 dd=some (.dK (eZ (aG.zip ((iE.set i d).set j a))))/\(∀p,p≠dd->H9 p=H6 p)/\((iE.set i d).set j a).Perm cs/\Step b c H H9 t t7 310:=fun{i j x y a d} hx hy ha hd=>by
    obtain⟨H8,c8,d8⟩:=tH (y:=d) ud cI NV hx (by decide)
    obtain⟨H9,c9,d9⟩:=tH (y:=a) c8.at cI (by rw[U8];exact NV) hy (by decide)
    exact⟨H8,H9,d8,d9,c9.at,fun p hp=>by rw[c9.ne hp,c8.ne hp];exact k7 p hp,(swap_perm ha hd).trans pm,(iD.my c8 hd0 db dc).my c9 hd0 db dc⟩
   obtain rfl|rfl:k=0∨k=1:=by omega
   ·refine⟨⟨_,_,cE.of Nq,rfl⟩,?_⟩
    rintro w' H8 ⟨rfl,hy⟩
    have e:=hy _ (cE.of Nq)
    obtain rfl:V.ref p1=w':=Option.some.inj e
    refine⟨p1,_,rfl,cE.of UE,rfl,_,_,rfl,_,_,rfl,rfl,?_⟩
    refine⟨_,rfl,_,rfl,dd,_,rfl,gd (i:=8) rfl h8,_,_,rfl,⟨sz (Ng h8),rfl⟩,_,rfl,.inl ⟨_,_,rfl,rfl,_,rfl,_,rfl,dd,_,rfl,gd (i:=5) rfl h5,_,_,rfl,⟨sz (Ng h5),rfl⟩,_,rfl,.inl ⟨_,_,rfl,rfl,_,_,rfl,rfl,_,rfl,cL (fun c =>?_) (fun c =>?_)⟩⟩⟩
    ·have c:=of_decide_eq_true c
     obtain⟨H9,H10,d9,d10,hd10,K9,pm10,st10⟩:=swap (i:=5) (j:=8) (x := "jump") (y := "farjump") rfl rfl h5 h8
     refine⟨_,rfl,_,rfl,dd,_,rfl,gd (i:=5) rfl h5,gn ⟨_,rfl,_,rfl,dd,_,rfl,gd (i:=8) rfl h8,_,rfl,_,rfl,dd,_,rfl,d9,_,rfl,_,rfl,_,rfl,dd,_,rfl,d10,?_⟩⟩
     refine⟨_,_,_,_,rfl,pm10,hd10,K9,fun _ x y hx hy =>?_,(fun h=>absurd h (by decide)),t7,st10⟩
     rw[Yc (by decide),Yj (by omega)] at hx
     rw[Yj (by rw[U8];omega)] at hy
     cases hx;cases hy
     omega
    ·have c:¬_:=fun z=>c (decide_eq_true z)
     refine⟨iE,_,_,_,rfl,pm,ud,k7,fun _ x y hx hy =>?_,(fun h=>absurd h (by decide)),t7,iD⟩
     rw[h5] at hx;rw[h8] at hy
     cases hx;cases hy
     exact c
   ·refine⟨⟨_,_,cE.of Nq,rfl⟩,?_⟩
    rintro w' H8 ⟨rfl,hy⟩
    have e:=hy _ (cE.of Nq)
    obtain rfl:V.ref p2=w':=Option.some.inj e
    refine⟨p2,_,rfl,cE.of SH,rfl,_,_,rfl,_,_,rfl,rfl,?_⟩
    have o1:=o1 (by decide)
    refine⟨_,rfl,_,rfl,dd,_,rfl,gd (i:=9) rfl h9,_,_,rfl,⟨sz (Ng h9),rfl⟩,_,rfl,.inl ⟨_,_,rfl,rfl,_,rfl,_,rfl,dd,_,rfl,gd (i:=6) rfl h6,_,_,rfl,⟨sz (Ng h6),rfl⟩,_,rfl,.inl ⟨_,_,rfl,rfl,_,_,rfl,rfl,_,rfl,cL (fun c =>?_) (fun c =>?_)⟩⟩⟩
    ·have c:=of_decide_eq_true c
     obtain⟨H9,H10,d9,d10,hd10,K9,pm10,st10⟩:=swap (i:=6) (j:=9) (x := "zero") (y := "farzero") rfl rfl h6 h9
     refine⟨_,rfl,_,rfl,dd,_,rfl,gd (i:=6) rfl h6,gn ⟨_,rfl,_,rfl,dd,_,rfl,gd (i:=9) rfl h9,_,rfl,_,rfl,dd,_,rfl,d9,_,rfl,_,rfl,_,rfl,dd,_,rfl,d10,?_⟩⟩
     refine⟨_,_,_,_,rfl,pm10,hd10,K9,fun _ x y hx hy =>?_,fun _ x y hx hy =>?_,t7,st10⟩
     ·rw[Yc (by decide),Yc (by decide)] at hx hy
      exact o1 x y hx hy
     ·rw[Yc (by decide),Yj (by omega)] at hx
      rw[Yj (by rw[U8];omega)] at hy
      cases hx;cases hy
      omega
    ·have c:¬_:=fun z=>c (decide_eq_true z)
     refine⟨iE,_,_,_,rfl,pm,ud,k7,fun _=>o1,fun _ x y hx hy =>?_,t7,iD⟩
     rw[h6] at hx;rw[h9] at hy
     cases hx;cases hy
     exact c
  ·rintro σ H7 ⟨iE,x4,x5,x6,rfl,pm,ud,k7,o1,o2,t7,iD⟩
   have SE:iE.length=11:=by rw[pm.length_eq,cl]
   refine⟨⟨_,cE.of ((k7 _ e3).trans h3),Jd _⟩,nx _ _ ⟨iE,_,_,_,t7,rfl,pm,ud,?_,iD⟩⟩
   obtain⟨c5,h5⟩:∃x,iE[5]? = some x:=⟨_,Jc (by omega)⟩
   obtain⟨c6,h6⟩:∃x,iE[6]? = some x:=⟨_,Jc (by omega)⟩
   obtain⟨c8,h8⟩:∃x,iE[8]? = some x:=⟨_,Jc (by omega)⟩
   obtain⟨c9,h9⟩:∃x,iE[9]? = some x:=⟨_,Jc (by omega)⟩
   unfold gO
   simp only[Wc,List.any_nil,Bool.or_false]
   have g5:cz (aG.zip iE) (Str.ofString "jump")=c5:=lR cI (k:=5) rfl h5
   have g6:cz (aG.zip iE) (Str.ofString "zero")=c6:=lR cI (k:=6) rfl h6
   have g8:cz (aG.zip iE) (Str.ofString ("far" ++ "jump"))=c8:=lR cI (k:=8) (by rfl) h8
   have g9:cz (aG.zip iE) (Str.ofString ("far" ++ "zero"))=c9:=lR cI (k:=9) (by rfl) h9
   rw[g5,g6,g8,g9,decide_eq_false (o1 (by decide) _ _ h5 h8),decide_eq_false (o2 (by decide) _ _ h6 h9)]
   rfl
 rintro σ H4 ⟨cs1,x4,x5,x6,t4,rfl,pm1,hd4,hF,cn⟩
 have RJ:=cn.ub
 have Sy:=cn.le
 have M7:cs1.length=11:=by rw[pm1.length_eq,cl]
 have Rh:fg cs1:=fr.perm pm1.symm
 have RO:∀x∈cs1,uE x/\x.length<=11:=fun x hx=>cb x (pm1.mem_iff.mp hx)
 refine jX (te:=Sl _ _) (fun v H'=>∃(p:Addr) (as:List Addr) (cs:List Str) (t':Int),v = .ref p/\cs.length=4/\fg cs/\(∀x∈cs,uE x/\x.length<=11)/\tW K b c H' p (cH.zip cs) as/\Step b c H4 H' t4 t' 300) (fun Qn qn =>?_) ?_
 ·refine⟨_,rfl,b,c,t4,4,3,rfl,cn.bx,by omega,by omega,by decide,by decide,by decide,by decide,fun l cs2 H5 t5 cl2 fr2 cb2 C4 mf bX =>?_⟩
  refine⟨"abcd",l,cs2.map V.str,rfl,aM.of mf,by decide +kernel,by decide +kernel,by rw[Je,cl2];decide +kernel,fun H6 p as s6 Fm Bk al hk=>qn _ _ ⟨p,as,cs2,t5,rfl,cl2,fr2,fun x hx=>⟨(cb2 x hx).1,by have:=(cb2 x hx).2;omega⟩,⟨Bk,(bX.bx.aW Fm).1,(bX.bx.aW Fm).2,by rw[al,Yi,cl2];decide +kernel,fun j a qq ha hq =>?_⟩,(bX.trans (Step.same bX.bx s6)).more (by omega)⟩⟩
  have z:=Yn.mp hq
  have hj:j<(Str.ofString "abcd").cps.size:=by rw[<-al];exact(Jp.mp ha).1
  have ex:=Ui hj
  obtain⟨u1,u2⟩:=hk j a _ (.str qq.2) ha ex (by rw[Jl,z.2];rfl)
  have e1:=El j _ ex
  rw[z.1] at e1
  rw[<-Option.some.inj e1] at u2
  rw[bL (bX.bx.aW u1).1 (bX.bx.aW u1).2]
  exact u2
 rintro v H5 ⟨p5,as5,cs2,t5,rfl,cl2,fr2,cb2,P5,bX⟩
 have C1:=bX.old hd4 db dc
 have OA:=bX.ub
 have QC:=bX.le
 refine gn ?_
 refine jX (te:=Su _ _) (fun v H'=>∃(p:Addr) (as:List Addr) (cs:List Str) (t':Int),v = .ref p/\cs.length=9/\fg cs/\(∀x∈cs,uE x/\x.length<=11)/\tW K b c H' p (bQ.zip cs) as/\Step b c H5 H' t5 t' 300) (fun Qn qn =>?_) ?_
 ·refine⟨rfl,fun pk H6 n6=>⟨_,rfl,by show 3<=sizeLine;decide,fun lp H7 n7=>⟨_,rfl,b,c,t5,3,rfl,(bX.bx.same n6.same).same n7.same,by omega,by omega,by decide,by decide,fun r H8 r0 r1 mQ =>?_⟩⟩⟩
  obtain⟨pb,pc⟩:=bX.bx.aW n6.nn
  obtain⟨lb,lc⟩:=(bX.bx.same n6.same).aW n7.nn
  have SI:=mQ.old (n7.same _ _ n6.at) pb pc
  have L4:=mQ.old n7.at lb lc
  have mQ:=(Step.same bX.bx (n6.same.trans n7.same)).trans mQ
  obtain⟨m,hm,m4,m9⟩:∃m:Nat,([V.int 4,V.int 5,V.int 8]:List V)[r.toNat]? = some (.int (m:Nat))/\4<=m/\m<=8:=by
   have:r=0∨r=1∨r=2:=by omega
   rcases this with rfl|rfl|rfl
   ·exact⟨4,rfl,by decide,by decide⟩
   ·exact⟨5,rfl,by decide,by decide⟩
   ·exact⟨8,rfl,by decide,by decide⟩
  have mm:9<=2^m:=Jg (show 9<=2^4 by decide) (Nat.pow_le_pow_right (by decide) m4)
  refine .inl ⟨lp,_,r,.int (m:Nat),rfl,rfl,aM.of L4,cV r0 hm,b,c,t5+1,9,m,rfl,mQ.bx,by omega,by omega,by decide,by decide,mm,by omega,fun l cs3 H9 t9 cl3 pC cb3 C4 mf nR =>?_⟩
  have TY:=nR.old SI pb pc
  have nR:=mQ.trans nR
  refine⟨pk,l,bQ.map V.str,cs3.map V.str,rfl,aM.of TY,aM.of mf,fun H10 p as NG Fm Bk al hk=>qn _ _ ⟨p,as,cs3,t9,rfl,cl3,pC,fun x hx=>⟨(cb3 x hx).1,by have:=(cb3 x hx).2;omega⟩,⟨Bk,(nR.bx.aW Fm).1,(nR.bx.aW Fm).2,by rw[al,Je,Je,Yi],fun j a qq ha hq =>?_⟩,(nR.trans (Step.same nR.bx NG)).more (by omega)⟩⟩
  have z:=Yn.mp hq
  obtain⟨u1,u2⟩:=hk j a (.str qq.1) (.str qq.2) ha (by rw[Jl,z.1];rfl) (by rw[Jl,z.2];rfl)
  rw[bL (nR.bx.aW u1).1 (nR.bx.aW u1).2]
  exact u2
 rintro v H6 ⟨p6,as6,cs3,t6,rfl,cl3,pC,cb3,P6,fh⟩
 have IU:=fh.old C1 db dc
 have P5:=P5.step fh
 have Wj:=fh.ub
 have V9:=fh.le
 refine gn ?_
 have IV:=qI kY.1 (Jd 11) RO
 have Lc:=qI kY.2.1 (Jd 11) cb2
 have JC:=qI kY.2.2 (Jd 11) cb3
 have UP:(aG.zip cs1).length=11:=by rw[Yi,M7];rfl
 have RQ:(cH.zip cs2).length=4:=by rw[Yi,cl2];rfl
 have TQ:(bQ.zip cs3).length=9:=by rw[Yi,cl3];rfl
 have KG:=(cn.trans bX).trans fh
 refine⟨_,rfl,_,rfl,dd,_,rfl,IU,fun H7 p7 as7 s7 Fm Bk al hk =>?_⟩
 have iD:=Step.same fh.bx s7
 have P5:=P5.step iD
 have P6:=P6.step iD
 obtain⟨zs,ez1,ez2,M⟩:=xJ (K:=K) (G:=dN H7 b c) (bk:=aG.zip cs1) (as:=as7) (by rw[al];unfold eZ;rw[Je]) (by omega) (fun qq hq=>⟨(IV qq hq).1,(IV qq hq).2.1⟩) (fun j a qq ha hq=>by
  obtain⟨u1,u2⟩:=hk j a (.inr qq.1) (.str qq.2) ha (by unfold eZ;rw[Jl,hq];rfl)
  rw[bL (fh.bx.aW u1).1 (fh.bx.aW u1).2]
  exact u2)
 refine⟨b,c,p7,t6,dN H7 b c,zs,rfl,iD.bx,by omega,by omega,ak.refl _,.inl (aM.of (by rw[Bk,ez2])),M,fun l1 zs1 H8 t8 pz1 hl10 hl11 mQ =>?_⟩
 have V5:=mQ.ub
 have Wi:=mQ.le
 obtain⟨l1b,l1c⟩:=iD.bx.aW hl10
 obtain⟨et,pb1,D1⟩:=we ez1 M pz1 mQ.sm (by rw[bL l1b l1c];exact hl11)
 have P5:=P5.step mQ
 have P6:=P6.step mQ
 obtain⟨zs,ez1,ez2,M⟩:=xJ (K:=K) (G:=dN H8 b c) P5.len (by omega) (fun qq hq=>⟨(Lc qq hq).1,(Lc qq hq).2.1⟩) P5.prs
 refine⟨_,rfl,_,rfl,b,c,p5,t8,dN H8 b c,zs,rfl,mQ.bx,by omega,by omega,ak.refl _,.inl (aM.of (by rw[P5.at',ez2])),M,fun l2 zs2 H9 t9 pz2 hl20 hl21 nR =>?_⟩
 have VZ:=nR.ub
 have V6:=nR.le
 obtain⟨l2b,l2c⟩:=mQ.bx.aW hl20
 obtain⟨ju,pb2,D2⟩:=we ez1 M pz2 nR.sm (by rw[bL l2b l2c];exact hl21)
 have P6:=P6.step nR
 obtain⟨zs,ez1,ez2,M⟩:=xJ (K:=K) (G:=dN H9 b c) P6.len (by omega) (fun qq hq=>⟨(JC qq hq).1,(JC qq hq).2.1⟩) P6.prs
 refine⟨_,rfl,_,rfl,b,c,p6,t9,dN H9 b c,zs,rfl,nR.bx,by omega,by omega,ak.refl _,.inl (aM.of (by rw[P6.at',ez2])),M,fun l3 zs3 H10 t10 pz3 hl30 hl31 st10 =>?_⟩
 obtain⟨l3b,l3c⟩:=nR.bx.aW hl30
 obtain⟨jw,pb3,D3⟩:=we ez1 M pz3 st10.sm (by rw[bL l3b l3c];exact hl31)
 refine⟨_,rfl,_,rfl,by show 5<=sizeLine;decide,fun l H11 n11 =>?_⟩
 have Af:=((((KG.trans iD).trans mQ).trans nR).trans st10).bD n11
 have HR:=(Step.same st10.bx n11.same).sm
 refine q l _ _ _ et ju jw near iB H11 t10 ⟨?_,?_,?_,?_,?_,?_,by omega⟩ (((((KG.trans iD).trans mQ).trans nR).trans st10).fresh bx n11.nn) n11.at (aE (D1.same (nR.sm.trans (st10.sm.trans HR))) (aE (D2.same (st10.sm.trans HR)) (aE (D3.same HR) er))) (Af.more (by omega))
 ·refine Bb (qT Fu (by rw[M7];rfl) (by omega) (fun x hx=>(RO x hx).1) Rh pb1) (qT Ml (by rw[cl2];rfl) (by omega) (fun x hx=>(cb2 x hx).1) fr2 pb2) (qT My (by rw[cl3];rfl) (by omega) (fun x hx=>(cb3 x hx).1) pC pb3) n2 n8 nf Io ?_
  rw[Cy pb1 (fH (by rw[M7];rfl))]
  exact hF
 ·have:=pb1.map (·.1)
  rw[fH (by rw[M7];rfl)] at this
  exact this
 ·rw[pb1.length_eq,UP]
 ·rw[pb2.length_eq,RQ]
 ·rw[pb3.length_eq,TQ]
 ·rintro qq (hq|hq|hq)
  ·exact IV qq (pb1.mem_iff.mp hq)
  ·exact Lc qq (pb2.mem_iff.mp hq)
  ·exact JC qq (pb3.mem_iff.mp hq)
end
def Gf (bk:List (Str×Str)):Prop:=∀q∈bk,fk q.1=true/\fk q.2=true/\q.1.length<=8/\q.2.length<=11
theorem Gf.gs {bk:List (Str×Str)}(h:Gf bk)(hl:bk.length<=11):Gs 242 1 (bk.map dH):=(qW (w:=22) fun q hq=>by obtain⟨a,b,c,d⟩:=h q hq;exact⟨a,b,by omega⟩).mono (by omega) (Jd _)
theorem Gf.VE {bk:List (Str×Str)}(h:Gf bk)(hl:bk.length<=11):Qk 2 (aI bk):=by
 refine⟨bk.map dH,.inl rfl,(h.gs hl).mono (by decide) (Jd _),fun e he =>?_⟩
 obtain⟨q,hq,rfl⟩:=Ur.mp he
 obtain⟨h1,h2,h3,h4⟩:=h q hq
 refine⟨[.str q.1,.str q.2],.inr rfl,(Gs.cons (w:=30) (Gd.str (dp:=0) h1 (by omega)) (Gs.one (w:=30) (Gd.str h2 (by omega)))).mono (by decide) (Jd _),fun d hd =>?_⟩
 simp only[Jm,J7,or_false] at hd
 rcases hd with rfl|rfl
 ·exact .inl ⟨_,rfl,h1,by omega⟩
 ·exact .inl ⟨_,rfl,h2,by omega⟩
theorem uw {K:Ja}{H:Hp}{xs:List Str}{v:V}(h:Den K H (.list (xs.map PyData.str)) v):∃a,v = .ref a/\aM K H a (xs.map V.str):=by
 unfold Den at h
 obtain⟨a,vs,rfl,hS,hd⟩:=h
 refine⟨a,rfl,?_⟩
 have:vs=xs.map V.str:=by
  clear hS
  induction xs generalizing vs with
  | nil=>unfold au at hd;exact hd
  | cons x xs ih=>
   rw[Ub] at hd
   unfold au at hd
   obtain⟨u,r,rfl,hu,hd⟩:=hd
   unfold Den at hu
   rw[hu,ih _ hd];rfl
 rw[<-this];exact hS
theorem DA {K:Ja}{H:Hp}{bk:List (Str×Str)}{v:V}(h:Den K H (aI bk) v):fE fun(a:Addr) (us:List V)=>v = .ref a/\aM K H a us/\us.length=bk.length/\au K H (bk.map dH) us/\∀(i:Nat) (q:Str×Str),bk[i]? = some q->∃b:Addr,us[i]? = some (.ref b)/\cE K H b [.str q.1,.str q.2]:=by
 unfold aI Den at h
 obtain⟨a,us,rfl,hS,dk⟩:=h
 refine⟨a,us,rfl,hS,by have:=dk.len;rw[Je] at this;exact this,dk,fun i q e =>?_⟩
 obtain⟨u,hu,du⟩:=dk.get (i:=i) (d := .tuple [.str q.1,.str q.2]) (by rw[Jl,e];rfl)
 obtain⟨x,rfl,hT⟩:=du.pair
 exact⟨x,hu,hT⟩
def He (K:Ja):Sp:=fun vs H Q _=>wL fun(b c:Addr) (t:Int) (G:Hp) (v:V) (bk:List (Str×Str))=>vs=[.ref b,v]/\Bx H b c t/\0<=t/\t<14000000/\ak G (dN H b c)/\Den K G (aI bk) v/\Gf bk/\2<=bk.length/\bk.length<=11 /\
 ∀(d':PyData) (v':V) (G' H':Hp) (t':Int),Gd 110000 6 d'->fZ d'<=40->Den K G' d' v'->bI b c G G' H H'->Step b c H H' t t' 40->Q v' H'
section
variable {P:Program}{w:World}{K:Ja}{mg:Str->Option Value}{base:Heap}{f:Addr}{fd:FuncData}
theorem eO:aR ["_law_state", "_law_book", "_law_way", "_law_at", "_law_other_here", "_law_turned"] ["_law_state", "_law_book"] (av (top fC)):=⟨rfl,rfl,rfl,by decide +kernel,rfl,by decide +kernel,by decide +kernel⟩
theorem Kh (F:cR K "_law_bent_book" "_law_bent_book" (top fC) f fd)(T:Nm mg)(aw:Fn P w K mg base 1 "_law_take" ["_law_state", "_law_many"] oX)(gX:Fn P w K mg base 5 "_law_spoilt" ["_law_state", "_law_thing"] (kI K 3)):bC P w K mg base gG 6 f fd ["_law_state", "_law_book"] (He K):=by
 refine F.ok eO (fun vs H Q E h =>?_) (fun dI A outer s H vs Q E hr h =>?_)
 ·obtain⟨b,c,t,G,v,bk,rfl,_⟩:=h
  rfl
 obtain⟨b,c,t,G,v,bk,rfl,bx,t0,t1,hG,hd,sh,l2,l11,q⟩:=h
 have cY:=hr.units
 have small:∀{n:Nat},n<=10000->n<sizeLine:=fun h=>J3 h (by decide)
 obtain⟨a,us,rfl,hS,ul,dk,ent⟩:=DA hd
 refine⟨_,(af (Ed (i:=2) (j:=3) (k:=4) rfl eO.nd rfl rfl rfl (by decide) (by decide) (by decide) rfl rfl rfl (aa (aO (aw.mono (by decide)) hr rfl (aa (pv 0) (aa ah ae))) (aa (aO (aw.mono (by decide)) hr rfl (aa (pv 0) (aa (ai (dQ K) rfl T.n_len (by rfl) (aa (pv 1) ae)) ae))) (aa (aO (aw.mono (by decide)) hr rfl (aa (pv 0) (aa (ai (dQ K) rfl T.n_len (by rfl) (aa (pv 1) ae)) ae))) ae))) rfl)
  (af (aL (i:=5) eO.nd rfl (Or.inl rfl) (ba (mi K) rfl T.n_list (by rfl) (aa (pv 1) ae)))
  (af (aX (aK (jM K cY) (pv 2) ah (aH _)) (ag (fP (fN (aa (aV (eB K) (aV (eB K) (pv 5) (pv 3) (fun _ _=>rfl)) ah (fun _ _=>rfl)) (aa (aV (eB K) (aV (eB K) (pv 5) (pv 4) (fun _ _=>rfl)) ah (fun _ _=>rfl)) ae))) (gI (pv 5) (pv 3) set_list))) (ag (aX (aK (jM K cY) (pv 2) ah (aH _)) (ag (fP (fN (aa (aV (eB K) (aV (eB K) (pv 5) (pv 3) (fun _ _=>rfl)) ah (fun _ _=>rfl)) (aa (aQ cp (aV (eB K) (aV (eB K) (pv 5) (pv 4) (fun _ _=>rfl)) ah (fun _ _=>rfl)) (aV (eB K) aD (aO (aw.mono (by decide)) hr rfl (aa (pv 0) (aa ah ae))) (fun _ _=>rfl))) ae))) (gI (pv 5) (pv 3) set_list))) (ag (aX (aK (jM K cY) (pv 2) ah (aH _)) (ag (fP (fN (aa (aV (eB K) (aV (eB K) (pv 5) (pv 4) (fun _ _=>rfl)) ah (fun _ _=>rfl)) (aa (aV (eB K) (aV (eB K) (pv 5) (pv 3) (fun _ _=>rfl)) ah (fun _ _=>rfl)) ae))) (gI (pv 5) (pv 3) set_list))) (ag (aX (aK (jM K cY) (pv 2) ah (aH _)) (ag (fP (fN (aa (aV (eB K) (eU (K:=K) (ar lit_str (ar lit_str (ar lit_str (ar lit_str (ar lit_str bU)))))) (aO (aw.mono (by decide)) hr rfl (aa (pv 0) (aa ah ae))) (fun _ _=>rfl)) (aa (aV (eB K) (aV (eB K) (pv 5) (pv 3) (fun _ _=>rfl)) ah (fun _ _=>rfl)) ae))) (gI (pv 5) (pv 3) set_list))) (ag (aX (aK (jM K cY) (pv 2) ah (aH _)) (ag (fP (fN (aa (aV (eB K) (aV (eB K) (pv 5) (pv 3) (fun _ _=>rfl)) ah (fun _ _=>rfl)) (aa (aQ cp (aV (eB K) (aV (eB K) (pv 5) (pv 3) (fun _ _=>rfl)) ah (fun _ _=>rfl)) (aV (eB K) (eU (K:=K) (ar lit_str (ar lit_str (ar lit_str (ar lit_str bU))))) (aO (aw.mono (by decide)) hr rfl (aa (pv 0) (aa ah ae))) (fun _ _=>rfl))) ae))) (gI (pv 5) (pv 3) set_list))) (ag (aB (aO (gX.mono (by decide)) hr rfl (aa (pv 0) (aa (pv 5) ae))))))))))))))
  (ag (aB (pv 5)))))),?_⟩
 have g0:=bI.refl hG
 have hlen:∀{H':Hp},ak G H'->ym K (.ref a) H' us.length:=fun sm =>.inl ⟨_,sm.seq hS,rfl⟩
 refine⟨_,rfl,b,c,t,6,rfl,bx,t0,by omega,by decide,by decide,fun way H1 w0 w1 fY =>?_⟩
 have g1:=g0.step fY
 refine⟨_,rfl,_,rfl,_,_,rfl,hlen g1.up,b,c,_,_,rfl,fY.bx,by omega,by omega,by omega,by omega,fun at' H2 a0 a1 da =>?_⟩
 have g2:=g1.step da
 have da:=fY.trans da
 refine⟨_,rfl,_,rfl,_,_,rfl,hlen g2.up,b,c,_,_,rfl,da.bx,by omega,by omega,by omega,by omega,fun ot H3 o0 o1 bJ=>⟨_,_,_,rfl,?_⟩⟩
 have g3:=g2.step bJ
 have bJ:=da.trans bJ
 refine⟨_,rfl,a,us,rfl,.inl (g3.up.seq hS),fun p H4 n4=>gn ?_⟩
 have hp:H p=none:=bJ.fresh bx n4.nn
 have sM:G p=none:=by
  cases e:G p with
  | none=>rfl
  | some u=>have:=(cA (hG p u e)).1;rw[hp] at this;cases this
 obtain⟨pb,pc⟩:=bJ.bx.aW n4.nn
 have gp:=g3.bD bJ.bx n4 hp
 have cn:=bJ.bD n4
 have g4:bI b c G G H4 H4:=bI.refl (hG.trans cn.sm)
 have R9:∀a,H4 a=none->H a=none:=fun a z=>cn.fresh bx z
 obtain⟨q1,hq1⟩:∃q,bk[at'.toNat]? = some q:=⟨_,Jc (by omega)⟩
 obtain⟨q2,Kf⟩:∃q,bk[ot.toNat]? = some q:=⟨_,Jc (by omega)⟩
 obtain⟨e1,he1,Al⟩:=ent _ _ hq1
 obtain⟨e2,he2,hT2⟩:=ent _ _ Kf
 obtain⟨FR,iG,MW,Aw⟩:=sh q1 (Ju hq1)
 obtain⟨s21,s22,s23,s24⟩:=sh q2 (Ju Kf)
 have IM:=cV a0 he1
 have Pf:=cV o0 he2
 have Au:=n4.at
 have RJ:=cn.ub
 have Sy:=cn.le
 have oT:∀{Hx:Hp} {i:Int} {v:V} {e:Addr} {x y:V} {Q':VK},ak G Hx->cE K G e [x,y]->(i=0/\v=x∨i=1/\v=y)->Q' v Hx->Ra K (.ref e) (.int i) Hx Q':=fun sm hT hi hQ=>by
  rcases hi with ⟨rfl,rfl⟩|⟨rfl,rfl⟩
  ·exact .inr (.inl ⟨_,_,_,_,rfl,rfl,sm.fM hT,rfl,hQ⟩)
  ·exact .inr (.inl ⟨_,_,_,_,rfl,rfl,sm.fM hT,rfl,hQ⟩)
 dsimp only
 refine dP (t:=zb _ _ _) (fun σ H'=>∃(uS:List PyData) (fI:List V) (G':Hp) (t':Int),σ=[some (.ref b),some (.ref a),some (.int way),some (.int at'),some (.int ot),some (.ref p)]/\G' p=some (.lst fI)/\au K G' uS fI/\Gs 12000 1 uS/\uS.length=bk.length/\bI b c G G' H H'/\Step b c H H' t t' 20) (fun Nx nx =>?_) ?_
 ·have fin:∀(Gx Hx Hy:Hp) (T:Addr) (x y:Str) (t5:Int),bI b c G Gx H4 Hx->Step b c H4 Hx (t+1+1+1) t5 4->gJ Hx T (.tup [.str x,.str y]) Hy->fk x=true->fk y=true->x.length<=30->y.length<=30->∃k,yM us.length at'=some k/\Hy p=some (.lst us)/\Nx [some (.ref b),some (.ref a),some (.int way),some (.int at'),some (.int ot),some (.ref p)] (upd Hy p (.lst (us.set k (.ref T)))):=fun Gx Hx Hy T x y t5 gx st n ax ay lx ly=>by
   have TK:=st.old Au pb pc
   have BJ:=n.same _ _ TK
   refine⟨at'.toNat,nM a0 (by omega),BJ,?_⟩
   obtain⟨H7,c7⟩:∃H7,oZ Hy p (.lst (us.set at'.toNat (.ref T))) H7:=⟨_,⟨rfl⟩⟩
   rw[<-c7.eq]
   have gy:=gx.bD st.bx n (st.fresh cn.bx n.nn)
   obtain⟨g7,le7⟩:=gy.put R9 hp (by rw[Au];exact fun z=>nomatch z) sM pb pc c7.at (fun a z=>c7.ne z)
   have dT:Den K (upd Gx T (.tup [.str x,.str y])) (.tuple [.str x,.str y]) (.ref T):=jC aq (aE iy (aE iy er))
   have ud:au K (upd Gx T (.tup [.str x,.str y])) ((bk.map dH).set at'.toNat (.tuple [.str x,.str y])) (us.set at'.toNat (.ref T)):=qx (dk.same gy.gg) dT
   have gT:Gd 200 1 (.tuple [.str x,.str y]):=((Gs.cons (w:=30) (Gd.str (dp:=0) ax lx) (Gs.one (w:=30) (Gd.str ay ly))).mono (by decide) (Jd _)).tuple
   refine nx _ _ ⟨_,_,_,t5,rfl,aq,ud.same le7,((sh.gs l11).set gT).mono (by decide) (Jd _),by rw[U8,Je],g7,?_⟩
   exact((cn.trans (st.bD n)).my c7 hp pb pc).more (by omega)
  have Em:=Step.refl cn.bx
  have We:∀{Hx:Hp},ak H4 Hx->aM K Hx p us:=fun s=>aM.of (s _ _ Au)
  have AG:=g4.up
  refine⟨_,rfl,.inl ⟨rfl,_,rfl,cL (fun _ =>?_) (fun _ =>?_)⟩⟩
  ·refine⟨_,rfl,_,rfl,.inl ⟨p,us,at',_,rfl,rfl,aM.of Au,IM,oT AG Al (.inl ⟨rfl,rfl⟩) ?_⟩⟩
   refine⟨_,rfl,_,rfl,.inl ⟨p,us,ot,_,rfl,rfl,aM.of Au,Pf,oT AG hT2 (.inr ⟨rfl,rfl⟩) ?_⟩⟩
   refine⟨by show 2<=sizeLine;decide,fun T5 H5 n5 =>?_⟩
   obtain⟨k,hk,BJ,hN⟩:=fin _ _ _ _ _ _ _ g4 (Em.more (by decide)) n5 FR s22 (by omega) (by omega)
   exact⟨_,rfl,_,rfl,p,us,_,k,rfl,rfl,BJ,hk,hN⟩
  refine⟨_,rfl,.inl ⟨rfl,_,rfl,cL (fun _ =>?_) (fun _ =>?_)⟩⟩
  ·refine⟨_,rfl,_,rfl,.inl ⟨p,us,at',_,rfl,rfl,aM.of Au,IM,oT AG Al (.inl ⟨rfl,rfl⟩) ?_⟩⟩
   refine⟨_,rfl,_,rfl,.inl ⟨p,us,ot,_,rfl,rfl,aM.of Au,Pf,oT AG hT2 (.inr ⟨rfl,rfl⟩) ?_⟩⟩
   refine⟨_,rfl,b,c,_,2,rfl,cn.bx,by omega,by omega,by decide,by decide,fun r H5 r0 r1 bX =>?_⟩
   obtain⟨x,hx,cx⟩:∃x:Nat,Av (Str.ofString "01").cps.toList r=some x/\(x=48∨x=49):=by
    have:r=0∨r=1:=by omega
    rcases this with rfl|rfl
    ·exact⟨48,rfl,.inl rfl⟩
    ·exact⟨49,rfl,.inr rfl⟩
   have k1:(⟨#[x]⟩:Str).length=1:=rfl
   have kx:fk ⟨#[x]⟩=true:=jo.mpr fun ch hc=>by
    have:ch=x:=Uc.mp hc
    rw[this];omega
   refine .inr (.inr ⟨_,r,x,rfl,rfl,by decide,hx,.inr (.inl ⟨_,_,rfl,rfl,Uz (small (by omega)),by show 2<=sizeLine;decide,fun T6 H6 n6 =>?_⟩)⟩)
   obtain⟨k,hk,BJ,hN⟩:=fin _ _ _ _ _ _ _ (g4.step bX) (bX.more (by decide)) n6 FR (kQ s22 kx) (by omega) (by rw[PySem.strLen_append];omega)
   exact⟨_,rfl,_,rfl,p,us,_,k,rfl,rfl,BJ,hk,hN⟩
  refine⟨_,rfl,.inl ⟨rfl,_,rfl,cL (fun _ =>?_) (fun _ =>?_)⟩⟩
  ·refine⟨_,rfl,_,rfl,.inl ⟨p,us,ot,_,rfl,rfl,aM.of Au,Pf,oT AG hT2 (.inl ⟨rfl,rfl⟩) ?_⟩⟩
   refine⟨_,rfl,_,rfl,.inl ⟨p,us,at',_,rfl,rfl,aM.of Au,IM,oT AG Al (.inr ⟨rfl,rfl⟩) ?_⟩⟩
   refine⟨by show 2<=sizeLine;decide,fun T5 H5 n5 =>?_⟩
   obtain⟨k,hk,BJ,hN⟩:=fin _ _ _ _ _ _ _ g4 (Em.more (by decide)) n5 s21 iG (by omega) (by omega)
   exact⟨_,rfl,_,rfl,p,us,_,k,rfl,rfl,BJ,hk,hN⟩
  refine⟨_,rfl,.inl ⟨rfl,_,rfl,cL (fun _ =>?_) (fun _ =>?_)⟩⟩
  ·intro v5 H5 Ao d5
   obtain⟨G5,g5,le5,nw5⟩:=g4.lit cn.bx Ao (fun _ z=>z)
   have bX:=Em.trans (Step.same cn.bx Ao)
   obtain⟨l5,rfl,Fi⟩:=uw (xs:=["jumps", "e", "nine", "", "Set"]) (d5.same nw5)
   refine⟨_,rfl,b,c,_,5,rfl,bX.bx,by omega,by omega,by decide,by decide,fun r H6 r0 r1 fh =>?_⟩
   have g6:=g5.step fh
   obtain⟨z,hz⟩:∃z,(["jumps", "e", "nine", "", "Set"]:List Str)[r.toNat]? = some z:=⟨_,Jc (show r.toNat<5 by omega)⟩
   have zz:∀z∈(["jumps", "e", "nine", "", "Set"]:List Str),fk z=true/\z.length<=30:=by decide +kernel
   obtain⟨z1,z2⟩:=zz z (Ju hz)
   have EL:=bX.trans fh
   refine .inl ⟨l5,_,r,.str z,rfl,rfl,g6.up.seq Fi,cV r0 (by rw[Jl,hz];rfl),?_⟩
   refine⟨_,rfl,_,rfl,.inl ⟨p,us,at',_,rfl,rfl,aM.of (EL.old Au pb pc),IM,oT (g6.gg.trans g6.up) Al (.inr ⟨rfl,rfl⟩) ?_⟩⟩
   refine⟨by show 2<=sizeLine;decide,fun T7 H7 n7 =>?_⟩
   obtain⟨k,hk,BJ,hN⟩:=fin _ _ _ _ _ _ _ g6 (EL.more (by decide)) n7 z1 iG z2 (by omega)
   exact⟨_,rfl,_,rfl,p,us,_,k,rfl,rfl,BJ,hk,hN⟩
  refine⟨_,rfl,.inl ⟨rfl,_,rfl,cL (fun _ =>?_) (fun _ =>?_)⟩⟩
  ·refine⟨_,rfl,_,rfl,.inl ⟨p,us,at',_,rfl,rfl,aM.of Au,IM,oT AG Al (.inl ⟨rfl,rfl⟩) ?_⟩⟩
   refine⟨_,rfl,_,rfl,.inl ⟨p,us,at',_,rfl,rfl,aM.of Au,IM,oT AG Al (.inr ⟨rfl,rfl⟩) ?_⟩⟩
   intro v5 H5 Ao d5
   obtain⟨G5,g5,le5,nw5⟩:=g4.lit cn.bx Ao (fun _ z=>z)
   have bX:=Em.trans (Step.same cn.bx Ao)
   obtain⟨l5,rfl,Fi⟩:=uw (xs:=["2", " ", "0", "a"]) (d5.same nw5)
   refine⟨_,rfl,b,c,_,4,rfl,bX.bx,by omega,by omega,by decide,by decide,fun r H6 r0 r1 fh =>?_⟩
   have g6:=g5.step fh
   obtain⟨z,hz⟩:∃z,(["2", " ", "0", "a"]:List Str)[r.toNat]? = some z:=⟨_,Jc (show r.toNat<4 by omega)⟩
   have zz:∀z∈(["2", " ", "0", "a"]:List Str),fk z=true/\z.length<=10:=by decide +kernel
   obtain⟨z1,z2⟩:=zz z (Ju hz)
   have EL:=bX.trans fh
   refine .inl ⟨l5,_,r,.str z,rfl,rfl,g6.up.seq Fi,cV r0 (by rw[Jl,hz];rfl),?_⟩
   refine .inr (.inl ⟨_,_,rfl,rfl,Uz (small (by omega)),by show 2<=sizeLine;decide,fun T7 H7 n7 =>?_⟩)
   obtain⟨k,hk,BJ,hN⟩:=fin _ _ _ _ _ _ _ g6 (EL.more (by decide)) n7 FR (kQ iG z1) (by omega) (by rw[PySem.strLen_append];omega)
   exact⟨_,rfl,_,rfl,p,us,_,k,rfl,rfl,BJ,hk,hN⟩
  refine⟨_,rfl,_,rfl,b,c,_,(upd G p (.lst us),.ref p,aI bk),2,rfl,by decide,sh.VE l11,by decide,cn.bx,by omega,by omega,gp.sub,Den.list (aM.of aq) (dk.same gp.gg),fun d' v' G' H' t' gd gl dd gg st =>?_⟩
  refine q d' v' G' H' t' (gd.mono (by decide) (by decide)) ?_ dd (gp.trans gg R9) ((cn.trans st).more (by omega))
  have:fZ (aI bk)=bk.length:=by show(bk.map dH).length=_;rw[Je]
  have gl:fZ d'<=3*fZ (aI bk)+3:=gl
  omega
 ·rintro σ H5 ⟨uS,fI,G',t',rfl,hGp',hds',gs',dl,g',st'⟩
  exact⟨_,rfl,q _ _ _ _ _ (gs'.list.mono (by decide) (by decide)) (show uS.length<=40 by omega) (l7 hGp' hds') g' (st'.more (by decide))⟩
end
noncomputable def setB (bk:List (Str×Str))(x y:Str):List (Str×Str):=bk.map fun q=>if q.1=x then (q.1,y) else q
theorem xq {bk:List (Str×Str)}{x y:Str}(hx:x∈bk.map (·.1)):putK (eZ bk) (.inr x) (.str y)=eZ (setB bk x y):=by
 unfold putK
 rw[iR,j4 hx,if_pos (Option.isSome_some)]
 unfold eZ setB
 rw[Yu,Yu]
 refine Y6 fun q _ =>?_
 show(if (Sum.inr q.1:Key)=Sum.inr x then ((Sum.inr q.1:Key),V.str y) else (Sum.inr q.1,V.str q.2))=(Sum.inr (if q.1=x then (q.1,y) else q).1,V.str (if q.1=x then (q.1,y) else q).2)
 by_cases e:q.1=x
 ·rw[if_pos (by rw[e]),if_pos e]
 ·rw[if_neg (fun z=>e (Sum.inr.inj z)),if_neg e]
theorem wq {bk:List (Str×Str)}{x y:Str}:(setB bk x y).map (·.1)=bk.map (·.1):=by
 unfold setB
 rw[Yu]
 refine Y6 fun q _ =>?_
 show(if q.1=x then (q.1,y) else q).1=q.1
 split<;>rfl
theorem oh {bk:List (Str×Str)}{x y:Str}:(setB bk x y).length=bk.length:=Je _
theorem mT {bk:List (Str×Str)}{x y:Str}{q:Str×Str}(h:q∈setB bk x y):q∈bk∨(q.2=y/\∃p∈bk,q.1=p.1):=by
 obtain⟨p,hp,rfl⟩:=Ur.mp h
 by_cases e:p.1=x
 ·rw[if_pos e];exact .inr ⟨rfl,p,hp,rfl⟩
 ·rw[if_neg e];exact .inl hp
theorem wG:∀{bk:List (Str×Str)} {x:Str},x∈bk.map (·.1)->∃q∈bk,q.2=cz bk x
 | q::r,x,h=>by
  unfold cz
  by_cases e:q.1=x
  ·rw[if_pos e];exact⟨q,Js,rfl⟩
  ·rw[if_neg e]
   rcases Jm.mp h with z|z
   ·exact absurd z.symm e
   ·obtain⟨p,hp,h⟩:=wG z
    exact⟨p,Jo _ hp,h⟩
theorem bI.alter {b c p:Addr}{G Gx H3 Hx Hy:Hp}{o:HO}(g:bI b c G Gx H3 Hx)(h3:H3 p≠none)(sM:G p=none)(n:oZ Hx p o Hy):bI b c G Gx H3 Hy:=by
 refine⟨g.gg,fun a u e =>?_,g.new⟩
 have na:a≠p:=fun z=>by
  rcases g.new a u e with q|q
  ·rw[z,sM] at q;cases q
  ·rw[z] at q;exact h3 q
 have:=cA (g.sub a u e)
 rw[bL this.2.1 this.2.2,n.ne na]
 exact this.1
noncomputable def GO (k:Nat):Nat:=if k<3 then 110000 else 300
structure r9 (ds:List PyData):Prop where
 l:ds.length=5
 ok:∀(k:Nat) e,ds[k]? = some e->Gd (GO k) 6 e/\fZ e<=40
theorem r9.set {ds:List PyData}{k:Nat}{d:PyData}(h:r9 ds)(g:Gd (GO k) 6 d)(l:fZ d<=40):r9 (ds.set k d):=
 ⟨by rw[U8];exact h.l,fun j e he=>by
  by_cases z:k=j
  ·subst z
   rw[List.getElem?_set_self' ] at he
   cases e0:ds[k]? with
   | none=>rw[e0] at he;cases he
   | some x=>rw[e0] at he;cases he;exact⟨g,l⟩
  ·rw[Yc z] at he
   exact h.ok j e he⟩
theorem Good3.LV {et ju jw:List (Str×Str)}{near iB:Int}(g:Good3 et ju jw near iB):r9 [aI et,aI ju,aI jw,.int near,.int iB]:=by
 have bk:∀{bk:List (Str×Str)},Gf bk->bk.length<=11->Gd 110000 6 (aI bk)/\fZ (aI bk)<=40:=fun{bk} sh hl=>⟨(sh.gs hl).list.mono (by decide) (by decide),by show(bk.map dH).length<=40;rw[Je];omega⟩
 have fr:=g.fr
 have h1:=g.l1
 have h2:=g.l2
 have h3:=g.l3
 refine⟨rfl,fun k e he =>?_⟩
 rcases k with _|_|_|_|_|k<;>cases he
 ·exact bk (fun q hq=>g.sz q (.inl hq)) (by omega)
 ·exact bk (fun q hq=>g.sz q (.inr (.inl hq))) (by omega)
 ·exact bk (fun q hq=>g.sz q (.inr (.inr hq))) (by omega)
 ·exact⟨Gd.int (Jn fr.1 (by decide)) (by decide),Uw _⟩
 ·exact⟨Gd.int (Jn fr.2 (by decide)) (by decide),Uw _⟩
noncomputable abbrev xD:List PyData:=[.int 0,.int 1,.int 2,.int 8,.int 9,.int 16,.int 17,.int (-3),.bool true,.none,.str "4",.tuple [.int 4]]
theorem Hh:∀e∈xD,Gd 300 6 e/\fZ e<=40:=by
 simp only[Jm,J7,or_false,forall_eq_or_imp,forall_eq]
 refine⟨?_,?_,?_,?_,?_,?_,?_,?_,?_,?_,?_,?_⟩<;>exact⟨⟨by decide +kernel,by decide +kernel,by decide +kernel⟩,of_decide_eq_true rfl⟩
def Gy (K:Ja):Sp:=fun vs H Q _=>uR fun(b c lp:Addr) (t:Int) (G:Hp)=>uR fun(us:List V) (et ju jw:List (Str×Str)) (nf:Int×Int)=>vs=[.ref b,.ref lp]/\Bx H b c t/\0<=t/\t<13000000/\ak G (dN H b c)/\G lp=some (.lst us)/\au K G [aI et,aI ju,aI jw,.int nf.1,.int nf.2] us/\Good3 et ju jw nf.1 nf.2 /\
 ∀(l:Addr) (ds:List PyData) (fI:List V) (G' H':Hp) (t':Int),r9 ds->G' l=some (.lst fI)->au K G' ds fI->bI b c G G' H H'->Step b c H H' t t' 200->Q (.ref l) H'
section
variable {P:Program}{w:World}{K:Ja}{mg:Str->Option Value}{base:Heap}{f:Addr}{fd:FuncData}
theorem cT:aR ["_law_state", "_law_parts_here", "_law_turned", "_law_turn", "_law_at", "_law_odd", "_law_kinds_here", "_law_kept"] ["_law_state", "_law_parts_here"] (av (top jR)):=⟨rfl,rfl,rfl,by decide +kernel,rfl,by decide +kernel,by decide +kernel⟩
theorem zX (F:cR K "_law_bent" "_law_bent" (top jR) f fd)(T:Nm mg)(fB:mg "dict" = none)(aw:Fn P w K mg base 1 "_law_take" ["_law_state", "_law_many"] oX)(mx:Fn P w K mg base 6 "_law_bent_book" ["_law_state", "_law_book"] (He K)):bC P w K mg base gG 7 f fd ["_law_state", "_law_parts_here"] (Gy K):=by
 refine F.ok cT (fun vs H Q E h =>?_) (fun dI A outer s H vs Q E hr h =>?_)
 ·obtain⟨b,c,lp,t,G,us,et,ju,jw,nf,rfl,_⟩:=h
  rfl
 obtain⟨b,c,lp,t,G,us,et,ju,jw,nf,rfl,bx,t0,t1,hG,hlp,dk,gd3,q⟩:=h
 have cY:=hr.units
 have hu:=ur hr
 have small:∀{n:Nat},n<=10000->n<sizeLine:=fun h=>J3 h (by decide)
 have ul:=dk.len
 refine⟨_,(af (aL (i:=2) cT.nd rfl (Or.inl rfl) (ba (mi K) rfl T.n_list (by rfl) (aa (pv 1) ae)))
  (af (ip PassesOwn.never rfl (lY rfl T.n_range (aa (aQ cp ah (aO (aw.mono (by decide)) hr rfl (aa (pv 0) (aa ah ae)))) ae)) (aU (i:=3) cT.nd rfl (Or.inl rfl)) (af (aL (i:=4) cT.nd rfl (Or.inl rfl) (aO (aw.mono (by decide)) hr rfl (aa (pv 0) (aa ah ae))))
  (ag (aX (aK nC (pv 4) ah (aH _)) (ag (fP (aO (mx.mono (by decide)) hr rfl (aa (pv 0) (aa (aV (eB K) (pv 1) (pv 4) (fun _ _=>rfl)) ae))) (gI (pv 2) (pv 4) set_list))) (af (aL (i:=5) cT.nd rfl (Or.inl rfl) (eU (K:=K) (ar lit_int (ar lit_int (ar lit_int (ar lit_int (ar lit_int (ar lit_int (ar lit_int (ar lit_neg (ar wU (ar rJ (ar lit_str (ar (kd (K:=K) (ar lit_int bU)) bU))))))))))))))
  (ag (fP (aV (eB K) (pv 5) (aO (aw.mono (by decide)) hr rfl (aa (pv 0) (aa ah ae))) (fun _ _=>rfl)) (gI (pv 2) (pv 4) set_list))))))))
  (af (aX (aK (jM K cY) (aO (aw.mono (by decide)) hr rfl (aa (pv 0) (aa ah ae))) ah (aH _)) (af (aL (i:=6) cT.nd rfl (Or.inl rfl) (ba (FD K rfl) rfl fB (by rfl) (aa (aV (eB K) (pv 1) ah (fun _ _=>rfl)) ae)))
  (af (aL (i:=7) cT.nd rfl (Or.inl rfl) (cN hu (pv 6) aD (fun _ _=>rfl)))
  (af (kq hu (pv 6) aD (aQ cp (cN hu (pv 6) aD (fun _ _=>rfl)) (aQ OG aD ah)) rfl)
  (af (kq hu (pv 6) aD (pv 7) rfl)
  (ag (fP (qk rfl rfl T.n_list (pv 6)) (gI (pv 2) ah set_list))))))) aN)
  (ag (aB (pv 2)))))),?_⟩
 have g0:=bI.refl hG
 refine⟨_,rfl,lp,us,rfl,.inl (aM.of (g0.up _ _ hlp)),fun p H1 n1=>gn ?_⟩
 have hp:H p=none:=n1.nn
 have sM:G p=none:=by
  cases e:G p with
  | none=>rfl
  | some u=>have:=(cA (hG p u e)).1;rw[hp] at this;cases this
 obtain⟨pb,pc⟩:=bx.aW n1.nn
 have fY:=(Step.refl bx).bD n1
 have g1:bI b c G G H1 H1:=bI.refl (hG.trans fY.sm)
 have Rh:∀a,H1 a=none->H a=none:=fun a z=>fY.fresh bx z
 have Ro:H1 p≠none:=by rw[n1.at];exact fun z=>nomatch z
 have fin:∀(Gx Hx:Hp) (ds:List PyData) (fI:List V) (t':Int),bI b c G Gx H1 Hx->Step b c H Hx t t' 200->Hx p=some (.lst fI)->au K Gx ds fI->r9 ds->Q (.ref p) Hx:=fun Gx Hx ds fI t' g st hx hd pt=>by
  obtain⟨g7,le7⟩:=g.put (Hy:=Hx) Rh hp Ro sM pb pc hx (fun a _=>rfl)
  exact q p ds fI _ Hx t' pt aq (hd.same le7) g7 st
 have put:∀(Gx Hx:Hp) (ds:List PyData) (fI:List V) (d:PyData) (v:V) (k:Nat) (t' N:Int),bI b c G Gx H1 Hx->Step b c H Hx t t' N->Hx p=some (.lst fI)->au K Gx ds fI->r9 ds->Den K Gx d v->Gd (GO k) 6 d->fZ d<=40 ->
   ∃Hy,oZ Hx p (.lst (fI.set k v)) Hy/\bI b c G Gx H1 Hy/\Step b c H Hy t t' N/\au K Gx (ds.set k d) (fI.set k v)/\r9 (ds.set k d):=fun Gx Hx ds fI d v k t' N g st hx hd pt dv gd gl=>by
  obtain⟨Hy,cy⟩:∃Hy,oZ Hx p (.lst (fI.set k v)) Hy:=⟨_,⟨rfl⟩⟩
  exact⟨Hy,cy,g.alter Ro sM cy,st.my cy hp pb pc,qx hd dv,pt.set gd gl⟩
 dsimp only
 refine dP (t:=vH _ _ _) (fun σ H'=>∃(x3 x4 x5:Option V) (Gx:Hp) (ds:List PyData) (fI:List V) (t':Int),σ=[some (.ref b),some (.ref lp),some (.ref p),x3,x4,x5,none,none]/\bI b c G Gx H1 H'/\Step b c H H' t t' 180/\H' p=some (.lst fI)/\au K Gx ds fI/\r9 ds) (fun Nx nx =>?_) ?_
 ·refine⟨_,rfl,b,c,t,3,rfl,fY.bx,t0,by omega,by decide,by decide,fun r H2 r0 r1 da =>.inl ⟨_,_,rfl,rfl,?_⟩⟩
  have g2:=g1.step da
  have si:=da.old n1.at pb pc
  have da:=fY.trans da
  obtain⟨n,hn,n4⟩:∃n:Nat,(1:Int)+r=(n:Int)/\n<=3:=⟨(1+r).toNat,by omega,by omega⟩
  rw[hn]
  refine⟨n,rfl,by omega,by omega,?_⟩
  refine pN (lo:=0) (n:=n) (fun i σ H'=>∃(x3 x4 x5:Option V) (Gx:Hp) (ds:List PyData) (fI:List V) (t':Int),σ=[some (.ref b),some (.ref lp),some (.ref p),x3,x4,x5,none,none]/\bI b c G Gx H1 H'/\Step b c H H' t t' (1+45*i)/\H' p=some (.lst fI)/\au K Gx ds fI/\r9 ds) ⟨_,_,_,G,_,us,t+1,rfl,g2,da.more (by omega),si,dk,gd3.LV⟩ ?_ ?_
  ·rintro i σ H3 hi ⟨x3,x4,x5,Gx,ds,fI,t3,rfl,g3,bJ,Az,Eh,pt3⟩
   have Nf:=bJ.ub
   have Nk:=bJ.le
   have V0:=Eh.len
   have VY:=pt3.l
   refine⟨_,rfl,b,c,t3,5,rfl,bJ.bx,by omega,by omega,by decide,by decide,fun at' H4 a0 a1 cn=>gn ?_⟩
   have g4:=g3.step cn
   have IZ:=cn.old Az pb pc
   have cn:=bJ.trans cn
   have RH:yM fI.length at'=some at'.toNat:=nM a0 (by omega)
   refine⟨_,rfl,_,_,rfl,rfl,_,rfl,cL (fun c1 =>?_) (fun c1 =>?_)⟩
   ·have c1:at'<3:=of_decide_eq_true c1
    obtain⟨bk,hbk,sh,lb2,lb11⟩:∃bk:List (Str×Str),([aI et,aI ju,aI jw,.int nf.1,.int nf.2]:List PyData)[at'.toNat]? = some (aI bk)/\Gf bk/\2<=bk.length/\bk.length<=11:=by
     have h1:=gd3.l1
     have h2:=gd3.l2
     have h3:=gd3.l3
     have:at'=0∨at'=1∨at'=2:=by omega
     rcases this with rfl|rfl|rfl
     ·exact⟨et,rfl,fun q hq=>gd3.sz q (.inl hq),by omega,by omega⟩
     ·exact⟨ju,rfl,fun q hq=>gd3.sz q (.inr (.inl hq)),by omega,by omega⟩
     ·exact⟨jw,rfl,fun q hq=>gd3.sz q (.inr (.inr hq)),by omega,by omega⟩
    obtain⟨v,hv,dv⟩:=dk.get hbk
    refine⟨_,rfl,_,rfl,_,rfl,.inl ⟨lp,us,at',v,rfl,rfl,aM.of (g4.up _ _ (g4.gg _ _ hlp)),cV a0 hv,b,c,_,Gx,v,bk,rfl,cn.bx,by omega,by omega,g4.sub,dv.same g4.gg,sh,lb2,lb11,fun d' v' G5 H5 t5 gd gl dd gg bX =>?_⟩⟩
    have g5:=g4.trans gg (fun a z=>by
     cases e:H1 a with
     | none=>rfl
     | some o=>
      exfalso
      have:=cn.fresh bx z
      rcases(show a=p∨a≠p from Classical.em _) with h|h
      ·rw[h,IZ] at z;cases z
      ·rw[n1.ne h,this] at e;cases e)
    have IX:=bX.old IZ pb pc
    have bX:=cn.trans bX
    obtain⟨Hy,cy,gy,sy,dy,py⟩:=put _ _ _ _ _ _ at'.toNat _ _ g5 bX IX (Eh.same gg.gg) pt3 dd (by rw[show GO at'.toNat=110000 from if_pos (by omega)];exact gd) gl
    refine⟨_,rfl,_,rfl,p,fI,at',at'.toNat,rfl,rfl,IX,RH,?_⟩
    rw[<-cy.eq]
    exact⟨_,_,_,_,_,_,_,rfl,gy,sy.more (by omega),cy.at,dy,py⟩
   ·intro v5 H5 Ao d5
    refine gn ?_
    obtain⟨G5,g5,le5,nw5⟩:=g4.lit cn.bx Ao (fun a z=>by
     cases e:H1 a with
     | none=>rfl
     | some o=>
      exfalso
      have:=cn.fresh bx z
      rcases(show a=p∨a≠p from Classical.em _) with h|h
      ·rw[h,IZ] at z;cases z
      ·rw[n1.ne h,this] at e;cases e)
    have IX:=Ao _ _ IZ
    have bX:=cn.trans (Step.same cn.bx Ao)
    obtain⟨l5,ws,rfl,Fi,C1⟩:fE fun a vs=>v5 = .ref a/\aM K G5 a vs/\au K G5 xD vs:=by
     have:=d5.same nw5
     unfold Den at this
     exact this
    refine⟨_,rfl,_,rfl,b,c,_,12,rfl,bX.bx,by omega,by omega,by decide,by decide,fun r2 H6 r20 r21 fh =>?_⟩
    have g6:=g5.step fh
    have JH:=fh.old IX pb pc
    have fh:=bX.trans fh
    obtain⟨y,hy,dy⟩:=C1.get (i:=r2.toNat) (Jc (show r2.toNat<xD.length from by show r2.toNat<12;omega))
    obtain⟨o1,o2⟩:=Hh _ (Jx (show r2.toNat<xD.length from by show r2.toNat<12;omega))
    obtain⟨Hy,cy,gy,sy,dsy,py⟩:=put _ _ _ _ _ _ at'.toNat _ _ g6 fh JH (Eh.same le5) pt3 dy (by rw[show GO at'.toNat=300 from if_neg (fun z=>c1 (decide_eq_true (by omega)))];exact o1) o2
    refine .inl ⟨l5,ws,r2,y,rfl,rfl,g6.up.seq Fi,cV r20 hy,_,rfl,_,rfl,p,fI,at',at'.toNat,rfl,rfl,JH,RH,?_⟩
    rw[<-cy.eq]
    exact⟨_,_,_,_,_,_,_,rfl,gy,sy.more (by omega),cy.at,dsy,py⟩
  ·rintro σ H3 ⟨x3,x4,x5,Gx,ds,fI,t3,rfl,g3,bJ,Az,Eh,pt3⟩
   exact nx _ _ ⟨_,_,_,_,_,_,_,rfl,g3,bJ.more (by omega),Az,Eh,pt3⟩
 rintro σ H2 ⟨x3,x4,x5,Gx,ds,fI,t2,rfl,g2,da,si,hd2,pt2⟩
 have Vf:=da.ub
 have SU:=da.le
 have V4:=hd2.len
 have Wg:=pt2.l
 refine dP (t:=zb _ _ _) (fun σ H'=>∃(x3 x4 x5 x6 x7:Option V) (Gx:Hp) (ds:List PyData) (fI:List V) (t':Int),σ=[some (.ref b),some (.ref lp),some (.ref p),x3,x4,x5,x6,x7]/\bI b c G Gx H1 H'/\Step b c H H' t t' 200/\H' p=some (.lst fI)/\au K Gx ds fI/\r9 ds) (fun Nx nx =>?_) ?_
 ·refine⟨_,rfl,b,c,t2,6,rfl,da.bx,by omega,by omega,by decide,by decide,fun r H3 r0 r1 bJ =>.inl ⟨rfl,_,rfl,cL (fun _ =>?_) (fun _ =>?_)⟩⟩
  case refine_2=>exact nx _ _ ⟨_,_,_,_,_,Gx,ds,fI,_,rfl,g2.step bJ,(da.trans bJ).more (by omega),bJ.old si pb pc,hd2,pt2⟩
  have g3:=g2.step bJ
  have Az:=bJ.old si pb pc
  have bJ:=da.trans bJ
  obtain⟨v1,hv1,dv1⟩:=dk.get (i:=0) rfl
  obtain⟨a1,us1,rfl,sq,Df⟩:fE fun a us=>v1 = .ref a/\aM K H3 a us/\au K H3 (et.map dH) us:=by
   have:=(dv1.same g3.gg).same g3.up
   unfold aI Den at this
   exact this
  obtain⟨as,rfl,al,hT⟩:=qE Df
  have bl:=gd3.l1
  have bn:(eZ et).length=et.length:=by unfold eZ;rw[Je]
  have nd:(et.map (·.1)).Nodup:=gd3.n1.nodup_iff.mpr cI
  have mem:∀x∈aG,x∈et.map (·.1):=fun x hx=>gd3.n1.mem_iff.mpr hx
  refine⟨_,rfl,.inl ⟨lp,us,0,.ref a1,rfl,rfl,aM.of (g3.up _ _ (g3.gg _ _ hlp)),cV (by decide) hv1,a1,as,eZ et,rfl,sq,by rw[bn];exact al,by rw[bn,bl];decide,hT,fun dd H4 n4=>gn ?_⟩⟩
  rw[kN nd] at n4
  have vD:H dd=none:=bJ.fresh bx n4.nn
  obtain⟨db,dc⟩:=bJ.bx.aW n4.nn
  have dp:p≠dd:=fun z=>by rw[z,n4.nn] at Az;cases Az
  have IZ:=n4.same _ _ Az
  have m5:=mem "jump" (by decide +kernel)
  have m8:=mem "farjump" (by decide +kernel)
  have gd:∀{Hx:Hp} {x:Str},Hx dd=some (.dK (eZ et))->x∈et.map (·.1)->iz Hx dd (.str x) (some (.str (cz et x))):=fun h hx=>by
   rw[<-j4 hx]
   exact iz.k (k := .inr _) h
  obtain⟨q5,hq5,e5⟩:=wG m5
  obtain⟨q8,hq8,e8⟩:=wG m8
  obtain⟨_,s52,_,s54⟩:=gd3.sz q5 (.inl hq5)
  obtain⟨_,s82,_,s84⟩:=gd3.sz q8 (.inl hq8)
  rw[e5] at s52 s54
  rw[e8] at s82 s84
  have Vg:Txt.mul (Str.ofString "0") 13=Str.ofString "0000000000000":=by decide +kernel
  have V1:(Str.ofString "0000000000000").length=13:=rfl
  refine⟨_,rfl,dd,_,rfl,gd n4.at m5,gn ?_⟩
  refine⟨_,rfl,dd,_,rfl,gd n4.at m8,.inr ⟨_,_,rfl,rfl,uC (by decide) (by decide) (by decide),?_⟩⟩
  rw[Vg]
  refine .inr (.inl ⟨_,_,rfl,rfl,Uz (small (by omega)),?_⟩)
  obtain⟨H5,c5⟩:∃H5,oZ H4 dd (.dK (eZ (setB et "jump" (cz et "farjump" ++ Str.ofString "0000000000000")))) H5:=⟨_,⟨rfl⟩⟩
  have len:∀{bk:List (Str×Str)},bk.length=11->(eZ bk).length<sizeLine:=fun h=>small (by unfold eZ;rw[Je,h];decide)
  have d5:kK H4 dd (.str "jump") (.str (cz et "farjump" ++ Str.ofString "0000000000000")) H5:=by
   rw[c5.eq,<-xq m5]
   exact kK.k (k := .inr "jump") n4.at (len bl)
  refine⟨_,rfl,dd,_,rfl,d5,?_⟩
  have S3:(Str.ofString "farjump")∈(setB et "jump" (cz et "farjump" ++ Str.ofString "0000000000000")).map (·.1):=by rw[wq];exact m8
  obtain⟨bk2',ebk⟩:∃bk2',bk2'=setB (setB et "jump" (cz et "farjump" ++ Str.ofString "0000000000000")) "farjump" (cz et "jump"):=⟨_,rfl⟩
  obtain⟨H6,c6⟩:∃H6,oZ H5 dd (.dK (eZ bk2')) H6:=⟨_,⟨rfl⟩⟩
  have d6:kK H5 dd (.str "farjump") (.str (cz et "jump")) H6:=by
   rw[c6.eq,ebk,<-xq S3]
   exact kK.k (k := .inr "farjump") c5.at (len (by rw[oh];exact bl))
  refine⟨_,rfl,_,rfl,dd,_,rfl,d6,?_⟩
  have Ti:bk2'.length=11:=by rw[ebk,oh,oh];exact bl
  have N3:∀q∈bk2',fk q.1=true/\fk q.2=true/\q.1.length+q.2.length+3<=35:=fun q hq=>by
   have nm:∀{p:Str×Str},p∈et->fk p.1=true/\p.1.length<=8:=fun hp=>⟨(gd3.sz _ (.inl hp)).1,(gd3.sz _ (.inl hp)).2.2.1⟩
   rw[ebk] at hq
   have all:q∈et∨(∃p∈et,q.1=p.1)/\fk q.2=true/\q.2.length<=24:=by
    rcases mT hq with hq|⟨z,p,hp,e⟩
    ·rcases mT hq with hq|⟨z,p,hp,e⟩
     ·exact .inl hq
     ·exact .inr ⟨⟨p,hp,e⟩,by rw[z];exact kQ s82 (by decide +kernel),by rw[z,PySem.strLen_append];omega⟩
    ·rcases mT hp with hp|⟨_,p',hp',e'⟩
     ·exact .inr ⟨⟨p,hp,e⟩,by rw[z];exact s52,by rw[z];omega⟩
     ·exact .inr ⟨⟨p',hp',e.trans e'⟩,by rw[z];exact s52,by rw[z];omega⟩
   rcases all with hq|⟨⟨p,hp,e⟩,h1,h2⟩
   ·obtain⟨x1,x2,x3,x4⟩:=gd3.sz q (.inl hq)
    exact⟨x1,x2,by omega⟩
   ·rw[e]
    obtain⟨x1,x2⟩:=nm hp
    exact⟨x1,h1,by omega⟩
  have fh:=((bJ.bD n4).my c5 vD db dc).my c6 vD db dc
  have JH:H6 p=some (.lst fI):=by rw[c6.ne dp,c5.ne dp];exact IZ
  have g6:bI b c G Gx H1 H6:=by
   have g4:=g3.step (Step.same bJ.bx n4.same)
   refine⟨g4.gg,fun a u e =>?_,g4.new⟩
   have na:a≠dd:=fun z=>by
    have:=(cA (g3.sub a u e)).1
    rw[z,n4.nn] at this;cases this
   have:=cA (g4.sub a u e)
   rw[bL this.2.1 this.2.2,c6.ne na,c5.ne na]
   exact this.1
  refine⟨_,rfl,dd,_,rfl,c6.at,fun H7 p7 as7 s7 hp70 hp71 al7 hk7 =>?_⟩
  obtain⟨G7,g7,le7,nw7⟩:=g6.lit fh.bx s7 (fun a z=>by
   have h4:a=dd∨H3 a=none:=by
    rcases(show a=dd∨a≠dd from Classical.em _) with h|h
    ·exact .inl h
    ·rw[c6.ne h,c5.ne h] at z
     exact .inr (n4.back z)
   rcases h4 with h|h
   ·rw[h,c6.at] at z;cases z
   ·cases e:H1 a with
    | none=>rfl
    | some o=>
     exfalso
     have:=bJ.fresh bx h
     rcases(show a=p∨a≠p from Classical.em _) with y|y
     ·rw[y,Az] at h;cases h
     ·rw[n1.ne y,this] at e;cases e)
  have iD:=fh.trans (Step.same fh.bx s7)
  have RS:=s7 _ _ JH
  have D7:Den K G7 (aI bk2') (.ref p7):=by
   obtain⟨zs,ez1,ez2,M⟩:=xJ (K:=K) (G:=newOf H6 H7) (bk:=bk2') (as:=as7) (by rw[al7];unfold eZ;rw[Je]) (by omega) (fun q hq=>⟨(N3 q hq).1,(N3 q hq).2.1⟩) (fun j a q ha hq=>by
    obtain⟨u1,u2⟩:=hk7 j a (.inr q.1) (.str q.2) ha (by unfold eZ;rw[Jl,hq];rfl)
    rw[eJ u1]
    exact u2)
   refine(Den.list (aM.of (by rw[eJ hp70];exact hp71)) ?_:Den K (newOf H6 H7) (aI bk2') (.ref p7)).same nw7
   show au K _ (bk2'.map dH) _
   rw[<-ez1,<-ez2]
   refine au.of_get (by rw[Je,Je]) fun j d v hd hv =>?_
   rw[Jl] at hd hv
   cases ez:zs[j]? with
   | none=>rw[ez] at hd;cases hd
   | some z=>
    rw[ez] at hd hv
    cases hd;cases hv
    exact M.d z (Ju ez)
  obtain⟨Hy,cy,gy,sy,dy,py⟩:=put _ _ _ _ _ _ 0 _ _ g7 iD RS (hd2.same le7) pt2 D7 ((qW N3).list.mono (by rw[show GO 0=110000 from rfl];omega) (by decide)) (by show(bk2'.map dH).length<=40;rw[Je];omega)
  refine⟨_,rfl,p,fI,0,0,rfl,rfl,RS,nM (by decide) (by omega),?_⟩
  rw[<-cy.eq]
  exact nx _ _ ⟨_,_,_,_,_,_,_,_,_,rfl,gy,sy.more (by omega),cy.at,dy,py⟩
 ·rintro σ H3 ⟨x3,x4,x5,x6,x7,Gx,ds,fI,t3,rfl,g3,bJ,Az,Eh,pt3⟩
  exact⟨_,rfl,fin _ _ _ _ _ g3 bJ Az Eh pt3⟩
end
noncomputable def Cu:Value->Str
 | .str x _=>x
 | _ => "?"
theorem qo {Pm:Params}{P:Program}{w:World}:∀{l:List DictEntry},PySem.W.KeysLit Pm l->Pairs (PySem.strKind P w) l (l.map fun e=>(Cu e.key,e.val))
 | [],_ =>.nil
 | e::l,h=>by
  obtain⟨⟨x,t,e1,_⟩,h2⟩:=h
  refine .cons ?_ rfl (qo h2)
  show(PySem.strKind P w).is (Cu e.key) e.key=true
  rw[e1]
  exact PySem.strKind_is P w x t
theorem uq {l:List DictEntry}:(l.map fun e=>(Cu e.key,e.val)).map (·.1)=l.map fun e=>Cu e.key:=by rw[Yu];rfl
def xi (K:Ja):Sp:=fun vs H Q _=>∃(a:Addr) (ns:List Int),vs=[.ref a]/\aM K H a (ns.map V.int)/\ns.length<=63/\∀H',Q (.bl true) H'
def CO (K:Ja)(CF:Addr):Sp:=fun vs H Q _=>wL fun(lp:Addr) v1 v2 v3 v4 v5=>uR fun d1 d2 d3 d4 d5=>vs=[.ref lp]/\aM K H lp [v1,v2,v3,v4,v5]/\pq K H v1 v2 v3 v4 v5 d1 d2 d3 d4 d5/\gb d1 d2 d3 d4 d5=none /\
 ∀m H',ak H H'->H m=none->gY K CF H' m d1 d2 d3 d4 d5->Q (.ref m) H'
theorem Gz {K:Ja}{CF C:Addr}{vs:List V}{H:Hp}{Q:VK}{E:XK}(h:CO K CF vs H Q E):DC K CF C vs H Q (fun _ _ _=>False):=by
 obtain⟨lp,v1,v2,v3,v4,v5,d1,d2,d3,d4,d5,rfl,hl,D,hw,q⟩:=h
 exact⟨lp,v1,v2,v3,v4,v5,d1,d2,d3,d4,d5,rfl,hl,D,fun _ m H' s n fo=>q m H' s n fo,fun y hy=>by rw[hw] at hy;cases hy⟩
theorem FZ {α:Type}:∀{xs:List α},xs.length=5->uR fun a b c d e=>xs=[a,b,c,d,e]
 | [a,b,c,d,e],_=>⟨a,b,c,d,e,rfl⟩
theorem xh {K:Ja}{H:Hp}{d1 d2 d3 d4 d5:PyData}{v1 v2 v3 v4 v5:V}(h:au K H [d1,d2,d3,d4,d5] [v1,v2,v3,v4,v5])(p:r9 [d1,d2,d3,d4,d5]):pq K H v1 v2 v3 v4 v5 d1 d2 d3 d4 d5:=by
 have at':∀(i:Nat) d v,([d1,d2,d3,d4,d5]:List PyData)[i]? = some d->([v1,v2,v3,v4,v5]:List V)[i]? = some v->Den K H d v:=fun i d v e1 e2=>ig h e1 e2
 have ft:∀(i:Nat) d,([d1,d2,d3,d4,d5]:List PyData)[i]? = some d->i<3->Ee d:=fun i d e hi=>by
  obtain⟨g,l⟩:=p.ok i d e
  rw[show GO i=110000 from if_pos hi] at g
  exact Ee.of g (by decide) (by decide) (by omega)
 exact⟨at' 0 _ _ rfl rfl,at' 1 _ _ rfl rfl,at' 2 _ _ rfl rfl,at' 3 _ _ rfl rfl,at' 4 _ _ rfl rfl,ft 0 _ rfl (by decide),ft 1 _ rfl (by decide),ft 2 _ rfl (by decide)⟩
theorem AZ (d:PyData):(gu d).weight=d.weight:=by cases d<;>simp only[gu,PyData.weight]
theorem Ba (d:PyData):(gu d).depth=d.depth:=by cases d<;>simp only[gu,PyData.depth]
theorem wu {d1 d2 d3 d4 d5:PyData}(p:r9 [d1,d2,d3,d4,d5]):Gs 331000 6 [d1,d2,d3,d4,d5]:=by
 obtain⟨g1,_⟩:=p.ok 0 _ rfl
 obtain⟨g2,_⟩:=p.ok 1 _ rfl
 obtain⟨g3,_⟩:=p.ok 2 _ rfl
 obtain⟨g4,_⟩:=p.ok 3 _ rfl
 obtain⟨g5,_⟩:=p.ok 4 _ rfl
 exact(Gs.cons g1 (Gs.cons g2 (Gs.cons g3 (Gs.cons g4 (Gs.one g5))))).mono (by decide) (Jd _)
theorem Fb {d1 d2 d3 d4 d5:PyData}(p:r9 [d1,d2,d3,d4,d5]):(kB d1 d2 d3 d4 d5).depth<8/\(kB d1 d2 d3 d4 d5).weight<=1000000:=by
 have g:=(wu p).list
 have gw:=g.wt
 have gd:=g.dp
 unfold kB
 cases hw:gb d1 d2 d3 d4 d5 with
 | none=>
  simp only[PyData.weight,PyData.weightAll,PyData.depth,PyData.depthAll,AZ,Ba] at gw gd ⊢
  omega
 | some y=>
  have:y.length<=10:=by
   unfold gb zQ at hw
   split at hw
   ·cases hw;decide
   split at hw
   ·cases hw;decide
   split at hw
   ·cases hw;decide
   split at hw
   ·cases hw;decide
   split at hw
   ·cases hw;decide
   cases hw
  have c:y.cps.size=y.length:=rfl
  have c2:(Str.ofString "form").cps.size=4:=rfl
  simp only[PyData.weight,PyData.weightAll,PyData.depth,PyData.depthAll,c,c2]
  omega
theorem HS (d:PyData):Pz (gu d)=Pz d:=by cases d<;>simp only[gu,Pz]
theorem qO (d:PyData):fZ (gu d)=fZ d:=by cases d<;>rfl
theorem Gd.gu {w dp:Nat}{d:PyData}(h:Gd w dp d):Gd w dp (gu d):=⟨by rw[HS];exact h.pz,by rw[AZ];exact h.wt,by rw[Ba];exact h.dp⟩
theorem r9.gu {d1 d2 d3 d4 d5:PyData}(p:r9 [d1,d2,d3,d4,d5]):r9 [gu d1,gu d2,gu d3,d4,d5]:=by
 refine⟨rfl,fun k e he =>?_⟩
 rcases k with _|_|_|_|_|k<;>cases he
 ·obtain⟨g,l⟩:=p.ok 0 _ rfl;exact⟨g.gu,by rw[qO];exact l⟩
 ·obtain⟨g,l⟩:=p.ok 1 _ rfl;exact⟨g.gu,by rw[qO];exact l⟩
 ·obtain⟨g,l⟩:=p.ok 2 _ rfl;exact⟨g.gu,by rw[qO];exact l⟩
 ·exact p.ok 3 _ rfl
 ·exact p.ok 4 _ rfl
theorem lE (bk:List (Str×Str)):I0 (gu (aI bk))=true:=by
 show wJ (bk.map dH)=true
 induction bk with
 | nil=>rfl
 | cons q bk ih=>
  show(I0 (dH q)&&wJ (bk.map dH))=true
  rw[ih]
  rfl
theorem zt {K:Ja}{CF:Addr}{H:Hp}{b c m:Addr}{t:Int}{et ju jw:List (Str×Str)}{near iB:Int}(bx:Bx H b c t)(mb:m≠b)(mc:m≠c)(h:gY K CF H m (aI et) (aI ju) (aI jw) (.int near) (.int iB)):gY K CF (dN H b c) m (aI et) (aI ju) (aI jw) (.int near) (.int iB):=by
 obtain⟨dx,w1,w2,w3,w4,w5,e,h1,h2,h3,h4,h5⟩:=h
 exact⟨dx,w1,w2,w3,w4,w5,by rw[bL mb mc];exact e,Den.hide bx (lE et) h1,Den.hide bx (lE ju) h2,Den.hide bx (lE jw) h3,Den.hide bx rfl h4,Den.hide bx rfl h5⟩
def FL (K:Ja)(G:Hp)(v:V):Prop:=mI fun(l:Addr) (ds:List PyData) (us:List V)=>v = .ref l/\G l=some (.lst us)/\au K G ds us/\r9 ds
theorem FL.same {K:Ja}{G G':Hp}{v:V}(h:FL K G v)(s:ak G G'):FL K G' v:=by
 obtain⟨l,ds,us,e,h1,h2,h3⟩:=h
 exact⟨l,ds,us,e,s _ _ h1,h2.same s,h3⟩
abbrev F0 (K:Ja)(j:Nat):TE:=K2 FG
 (Co (xN K (Pq (Gr K) (ph j) qK (AH (tC (V.int 3))))) [Str.ofString "_law_book"].length [] (nE 0) Mh
  (MQ (fun xs H Q=>∃p ys,xs=[V.ref p]/\((aM K H p ys/\∀(l:Addr) (H':Hp),gJ H l (HO.tup ys) H'->Q (V.ref l) H')∨cE K H p ys/\Q (V.ref p) H)) (uM (ph 0) Ae)))
 (Pq (Gr K) (ph j) (AH (tC (V.int 3))) qK)
theorem uD {K:Ja}{j:Nat}{σ:L2.St}{H:Hp}{lp:Addr}{v1 v2 v3 v4 v5:V}{d1 d2 d3:PyData}{Qn:VK}(hσ: σ[j]? = some (some (.ref lp)))(hl:aM K H lp [v1,v2,v3,v4,v5])(D:au K H [d1,d2,d3] [v1,v2,v3])(o:∀d∈[d1,d2,d3],∃ds,d = .list ds∨d = .tuple ds)
  (q:∀p w1 w2 w3 H',ak H H'->H p=none->H' p=some (.lst [w1,w2,w3,v4,v5])->au K H' [gu d1,gu d2,gu d3] [w1,w2,w3]->Qn (.ref p) H'):F0 K j σ H Qn:=by
 refine⟨_,hσ,3,rfl,.inl ⟨_,_,rfl,hl,fun p6 H6 n6 =>?_⟩⟩
 rw[show(3:Int)=((3:Nat):Int) from rfl,v9] at n6
 have D6:=D.same n6.same
 refine⟨p6,rfl,⟨_,aM.of n6.at⟩,?_⟩
 refine dj (N:=3) (fun i ys H'=>ak H6 H'/\au K H' (([d1,d2,d3].map gu).take i) ys) ⟨ak.refl _,er⟩ ?_ ?_
 ·rintro i ys H7 Ny hi ⟨s7,ud⟩ ny
  have hd:i<[d1,d2,d3].length:=hi
  obtain⟨v,hv,dv⟩:=(D6.same s7).get (i:=i) (Jc hd)
  have L9:(([v1,v2,v3,v4,v5]:List V).take 3)[i]? = some v:=hv
  have yl:=ud.len
  rw[Um] at yl
  refine⟨⟨_,_,s7.seq (aM.of n6.at),L9⟩,J3 (show ys.length<=3 by omega) (by decide),?_⟩
  rintro x' H8 ⟨rfl,hy⟩
  have e:=hy _ (s7.seq (aM.of n6.at))
  rw[L9] at e;cases e
  refine gn ?_
  have Fx:∀v' H',ak H8 H'->Den K H' (gu [d1,d2,d3][i]) v'->Ny (ys++[v']) H':=fun v' H' s d'=>ny _ _ ⟨s7.trans s,by
   rw[Ul (by rw[Je];exact hd),Wd]
   exact EH (ud.same s) d'⟩
  obtain⟨ds,e|e⟩:=o _ (Jx hd)
  ·rw[e] at dv Fx
   unfold Den at dv
   obtain⟨a,us,rfl,hS,dk⟩:=dv
   exact⟨_,rfl,a,us,rfl,.inl ⟨hS,fun l H9 n9=>Fx _ _ n9.same (jC n9.at (dk.same n9.same))⟩⟩
  ·rw[e] at dv Fx
   have Tb:=dv
   unfold Den at dv
   obtain⟨a,us,rfl,hS,dk⟩:=dv
   exact⟨_,rfl,a,us,rfl,.inr ⟨hS,Fx _ _ (ak.refl _) Tb⟩⟩
 ·rintro ys H7 ⟨s7,ud⟩
  refine⟨⟨_,s7.seq (aM.of n6.at),Jd _⟩,fun pv hp =>?_⟩
  obtain⟨H8,n8⟩:∃H8,gJ H7 pv (.lst ys) H8:=⟨_,hp,rfl⟩
  rw[<-n8.eq]
  have s8:=n6.same.trans (s7.trans n8.same)
  refine⟨_,hσ,3,rfl,.inl ⟨_,_,rfl,s8.seq hl,fun p9 H9 n9 =>?_⟩⟩
  rw[show(3:Int)=((3:Nat):Int) from rfl,sA] at n9
  have yl:=ud.len
  have yl:ys.length=3:=yl
  obtain⟨w1,w2,w3,rfl⟩:mI fun a b c=>ys=[a,b,c]:=by
   match ys,yl with
   | [a,b,c],_=>exact⟨a,b,c,rfl⟩
  refine .inr (.inr ⟨pv,p9,_,_,rfl,rfl,n9.same _ _ n8.at,n9.at,by show 5<=sizeLine;decide,fun p10 H10 uW =>?_⟩)
  have NG:=s8.trans (n9.same.trans uW.same)
  exact q p10 w1 w2 w3 H10 NG (n6.back (s7.free (n8.back (n9.back uW.nn)))) uW.at (ud.same (n8.same.trans (n9.same.trans uW.same)))
section
variable {P:Program}{w:World}{K:Ja}{mg:Str->Option Value}{base:Heap}{f:Addr}{fd:FuncData}{CF:Addr}
theorem gE:aR ["_law_script", "_law_state", "_law_turn", "_law_parts_here", "_law_form_here", "_law_fields", "_law_some", "_law_kept", "_law_why", "_law_due_here"] ["_law_script"] (av (top gM)):=⟨rfl,rfl,rfl,by decide +kernel,rfl,by decide +kernel,by decide +kernel⟩
theorem GD (F:cR K "law" "law" (top gM) f fd)(T:Nm mg)(MF:EY K CF)(uo:Fn P w K mg base 1 "_law_begin" ["_law_script"] (rP K))(tP:Fn P w K mg base 4 "_law_parts" ["_law_state"] (Cb K))(jE:Fn P w K mg base 9 "_law_form" ["_law_parts_here"] (CO K CF))(v7:Fn P w K mg base 7 "_law_bent" ["_law_state", "_law_parts_here"] (Gy K))(yK:Fn P w K mg base 2 "_law_due" ["_law_parts_here"] (CI K))(vP:Fn P w K mg base 10 "_law_told" ["_law_parts_here"] (u7 K))(hX:Fn P w K mg base 8 "_law_same" ["_law_found", "_law_due_here"] (qG K 8)):
  bC P w K mg base gG 11 f fd ["_law_script"] (xi K):=by
 refine F.ok gE (fun vs H Q E h =>?_) (fun dI A outer s H vs Q E hr h =>?_)
 ·obtain⟨a,ns,rfl,_⟩:=h
  rfl
 obtain⟨a,ns,rfl,hS,hlen,q⟩:=h
 have cY:=hr.units
 refine⟨_,(af (aL (i:=1) gE.nd rfl (Or.inr rfl) (aO (uo.mono (by decide)) hr rfl (aa (pv 0) ae)))
  (af (ip PassesOwn.never rfl (lY rfl T.n_range (aa ah ae)) (aU (i:=2) gE.nd rfl (Or.inl rfl)) (af (aL (i:=3) gE.nd rfl (Or.inr rfl) (aO (tP.mono (by decide)) hr rfl (aa (pv 1) ae)))
  (af (aL (i:=4) gE.nd rfl (Or.inl rfl) (aO (jE.mono (by decide)) hr rfl (aa (pv 3) ae)))
  (af (aL (i:=5) gE.nd rfl (Or.inl rfl) (aQ cp (cW rfl (cP (Nc:=["_law_book"]) (Fc:=[]) (js:=[])) (AA K (bz (ue K) (pv 3) bZ (bH ah))) (cc (i:=0) (n:=1) (by decide)) (fun _ _ _ _ _=>(aU (i:=0) (rY ["_law_book"]) rfl (Or.inl rfl))) (fun _ _ _ _ _=>di) (fun _ _ _ _ _=>(ba (gz K) rfl T.n_tuple (by rfl) (aa (pv 0) ae)))) (bz (ue K) (pv 3) (bH ah) bZ)))
  (af (ip PassesOwn.never rfl (AA K (aQ cp (aQ cp (eY (aa (pv 3) ae)) (cW rfl (cP (Nc:=["_law_more"]) (Fc:=["_law_state", "_law_parts_here"]) (js:=[1,3])) (lY rfl T.n_range (aa ah ae)) (cc (i:=0) (n:=1) (by decide)) (fun _ _ _ _ _=>(aU (i:=0) (rY ["_law_more", "_law_state", "_law_parts_here"]) rfl (Or.inl rfl))) (fun _ _ _ _ _=>di) (fun _ _ _ _ _=>(aO (v7.mono (by decide)) hr rfl (aa (pv 1) (aa (pv 2) ae)))))) (eY (aa (pv 5) ae)))) (aU (i:=6) gE.nd rfl (Or.inl rfl)) (af (aL (i:=7) gE.nd rfl (Or.inl rfl) (ba (Ig K hr.gd cY) rfl T.n_str (by rfl) (aa (pv 6) ae)))
  (af (aL (i:=8) gE.nd rfl (Or.inl rfl) (aO (yK.mono (by decide)) hr rfl (aa (pv 6) ae)))
  (af (aL (i:=9) gE.nd rfl (Or.inl rfl) (fV (aK DU (pv 8) cJ (aH _)) (aQ cp (cW rfl (cP (Nc:=["_law_book"]) (Fc:=[]) (js:=[])) (AA K (bz (ue K) (pv 6) bZ (bH ah))) (cc (i:=0) (n:=1) (by decide)) (fun _ _ _ _ _=>(aU (i:=0) (rY ["_law_book"]) rfl (Or.inl rfl))) (fun _ _ _ _ _=>di) (fun _ _ _ _ _=>(ba (gz K) rfl T.n_tuple (by rfl) (aa (pv 0) ae)))) (bz (ue K) (pv 6) (bH ah) bZ)) (fN (aa aD (aa (pv 8) ae)))))
  (ag (aX (PW.pt (gh (bT (br (aO (hX.mono (by decide)) hr rfl (aa (aO (vP.mono (by decide)) hr rfl (aa (pv 6) ae)) (aa (pv 9) ae))))) (fq (aK (zj K cY) (ba (Ig K hr.gd cY) rfl T.n_str (by rfl) (aa (pv 6) ae)) (pv 7) (aH _))))) (ag (aB fG)) aN))))))
  (ag (aX (bT (br (aO (hX.mono (by decide)) hr rfl (aa (eY (aa (eS K (pv 4) rfl) (aa (eS K (pv 4) rfl) (aa (eS K (pv 4) rfl) (aa (eS K (pv 4) rfl) (aa (eS K (pv 4) rfl) ae)))))) (aa (pv 5) ae))))) (ag (aB fG)) aN)))))))
  (ag (aB fG)))),?_⟩
 refine⟨_,rfl,a,ns,rfl,hS,hlen,fun b c H1 wR hb hc sm1 =>?_⟩
 refine gn ?_
 dsimp only
 refine⟨2,rfl,by decide,by decide,?_⟩
 refine pN (lo:=0) (n:=2) (fun i σ H'=>∃(t':Int) (x2 x3 x4 x5 x6 x7 x8 x9:Option V),σ=[some (.ref a),some (.ref b),x2,x3,x4,x5,x6,x7,x8,x9]/\Step b c H1 H' 0 t' (10000*i)) ⟨0,_,_,_,_,_,_,_,_,rfl,(Step.refl wR).more (by omega)⟩ ?_ ?_
 ·rintro i σ H2 hi ⟨t2,x2,x3,x4,x5,x6,x7,x8,x9,rfl,da⟩
  have Vf:=da.ub
  have SU:=da.le
  refine⟨_,rfl,b,c,t2,rfl,da.bx,by omega,by omega,fun l r1 r2 r3 et ju jw near iB H3 t3 gd3 C4 mf hD bJ=>gn ?_⟩
  obtain⟨lb,lc⟩:=da.bx.aW C4
  have vi:dN H3 b c l=some (.lst [r1,r2,r3,.int near,.int iB]):=by rw[bL lb lc];exact mf
  have LL:au K (dN H3 b c) [aI et,aI ju,aI jw,.int near,.int iB] [r1,r2,r3,.int near,.int iB]:=dz hD (aE ka (aE ka er))
  have bJ:=da.trans bJ
  have fv:=xh LL gd3.LV
  refine⟨_,rfl,l,r1,r2,r3,.int near,.int iB,_,_,_,_,_,rfl,aM.of mf,fv.same nJ,gd3.why,fun m H4 s4 hm0 fo=>gn ?_⟩
  obtain⟨mb,mc⟩:=bJ.bx.aW hm0
  have cn:=bJ.trans (Step.same bJ.bx s4)
  have fo:=zt cn.bx mb mc fo
  have AR:=ak.dN (b:=b) (c:=c) s4 _ _ vi
  have Mu:=LL.same (ak.dN (b:=b) (c:=c) s4)
  have N5:=fv.same (ak.dN (b:=b) (c:=c) s4)
  dsimp only
  refine jX (te:=F0 K 3) (fun v H'=>rX fun p w1 w2 w3=>v = .ref p/\ak H4 H'/\H4 p=none/\H' p=some (.lst [w1,w2,w3,.int near,.int iB])/\au K H' [gu (aI et),gu (aI ju),gu (aI jw)] [w1,w2,w3]) (fun Qn qn=>uD (d1:=aI et) (d2:=aI ju) (d3:=aI jw) rfl (aM.of (eN _ _ AR)) (aE (N5.e1.same eN) (aE (N5.e2.same eN) (aE (N5.e3.same eN) er))) (fun d hd=>by
   simp only[Jm,J7,or_false] at hd
   rcases hd with rfl|rfl|rfl
   ·exact⟨_,.inl rfl⟩
   ·exact⟨_,.inl rfl⟩
   ·exact⟨_,.inl rfl⟩) fun p w1 w2 w3 H' s' hp hp' qR=>qn _ _ ⟨p,w1,w2,w3,rfl,s',hp,hp',qR⟩) ?_
  rintro v H5 ⟨p5,w1,w2,w3,rfl,s5,hp50,hp51,C1⟩
  obtain⟨p5b,p5c⟩:=cn.bx.aW hp50
  have bX:=cn.trans (Step.same cn.bx s5)
  have fo:=fo.same (ak.dN (b:=b) (c:=c) s5)
  have B8:=ak.dN (b:=b) (c:=c) s5 _ _ AR
  have LL:=Mu.same (ak.dN (b:=b) (c:=c) s5)
  have wd:Den K (dN H5 b c) (gu (aI et)) w1/\Den K (dN H5 b c) (gu (aI ju)) w2/\Den K (dN H5 b c) (gu (aI jw)) w3:=⟨Den.hide bX.bx (lE et) (ig (j:=0) C1 rfl rfl),Den.hide bX.bx (lE ju) (ig (j:=1) C1 rfl rfl),Den.hide bX.bx (lE jw) (ig (j:=2) C1 rfl rfl)⟩
  have bF:FL K (dN H5 b c) (.ref p5):=⟨p5,_,_,rfl,by rw[bL p5b p5c];exact hp51,aE wd.1 (aE wd.2.1 (aE wd.2.2 (aE ka (aE ka er)))),gd3.LV.gu⟩
  have bP:FL K (dN H5 b c) (.ref l):=⟨l,_,_,rfl,B8,LL,gd3.LV⟩
  refine gn ?_
  refine dP (t:=vH _ _ _) (fun σ H'=>∃(x6 x7 x8 x9:Option V) (t':Int),σ=[some (.ref a),some (.ref b),some (.int (0+i)),some (.ref l),some (.ref m),some (.ref p5),x6,x7,x8,x9]/\Step b c H5 H' t3 t' 4000) (fun Nx nx =>?_) ?_
  ·have OA:=bX.ub
   have QC:=bX.le
   have Vk:H5 l=some (.lst [r1,r2,r3,.int near,.int iB]):=eN _ _ B8
   refine⟨_,rfl,by show 1<=sizeLine;decide,fun p6 H6 n6=>⟨16,rfl,by decide,by decide,?_⟩⟩
   have fh:=Step.same bX.bx n6.same
   have Nh:=fh.sm _ _ B8
   have To:=LL.same fh.sm
   obtain⟨p6b,p6c⟩:=bX.bx.aW n6.nn
   refine dj (N:=16) (fun k ys H'=>∃t':Int,ys.length=k/\(∀v∈ys,FL K (dN H' b c) v)/\Step b c H6 H' t3 t' (200*k)) ⟨t3,rfl,(fun v hv=>nomatch hv),(Step.refl fh.bx).more (by omega)⟩ ?_ ?_
   ·rintro k ys H7 Ny hk ⟨t7,yl,hB,iD⟩ ny
    have V8:=iD.ub
    have Wf:=iD.le
    refine⟨hk,J3 (show ys.length<=1000 by omega) (by decide),?_⟩
    rintro x' H8 ⟨rfl,rfl⟩
    refine gn ⟨_,rfl,_,rfl,b,c,l,t7,dN H8 b c,_,et,ju,jw,(near,iB),rfl,iD.bx,by omega,by omega,ak.refl _,iD.sm _ _ Nh,To.same iD.sm,gd3,fun l' ds us G' H' t' pt zN qR g' st' =>?_⟩
    refine ny _ _ ⟨t',by rw[Jq,yl];rfl,fun v hv =>?_,(iD.trans st').more (by omega)⟩
    rcases Us.mp hv with hv|hv
    ·exact(hB v hv).same st'.sm
    ·rw[Uc.mp hv]
     exact FL.same (G:=G') ⟨l',ds,us,rfl,zN,qR,pt⟩ g'.sub
   rintro ys H7 ⟨t7,yl,hB,iD⟩
   refine⟨Jd _,fun p8 L4 =>?_⟩
   obtain⟨H8,n8⟩:∃H8,gJ H7 p8 (.lst ys) H8:=⟨_,L4,rfl⟩
   rw[<-n8.eq]
   have S9:=n8.same _ _ (iD.old n6.at p6b p6c)
   have mQ:=iD.bD n8
   refine .inr (.inr ⟨p6,p8,_,_,rfl,rfl,S9,n8.at,(by show 1+ys.length<=sizeLine;rw[yl];decide),fun p9 H9 n9 =>?_⟩)
   refine⟨_,rfl,by show 1<=sizeLine;decide,fun p10 H10 uW =>.inr (.inr ⟨p9,p10,_,_,rfl,rfl,uW.same _ _ n9.at,uW.at,(by rw[Jq];show 1+ys.length+1<=sizeLine;rw[yl];decide),fun p11 H11 n11 =>?_⟩)⟩
   have Af:=((mQ.bD n9).bD uW).bD n11
   have TZ:=ak.dN (b:=b) (c:=c) (n8.same.trans (n9.same.trans (uW.same.trans n11.same)))
   have gf:∀v∈[V.ref l]++ys++[V.ref p5],FL K (dN H11 b c) v:=fun v hv=>by
    rcases Us.mp hv with hv|hv
    ·rcases Us.mp hv with hv|hv
     ·rw[Uc.mp hv];exact bP.same (fh.sm.trans Af.sm)
     ·exact(hB v hv).same TZ
    ·rw[Uc.mp hv];exact bF.same (fh.sm.trans Af.sm)
   generalize [V.ref l]++ys++[V.ref p5]=vsA at n11 gf
   refine⟨p11,rfl,⟨_,aM.of n11.at⟩,?_⟩
   refine lC (N:=vsA.length) (fun k σ H'=>∃(x6 x7 x8 x9:Option V),σ=[some (.ref a),some (.ref b),some (.int (0+i)),some (.ref l),some (.ref m),some (.ref p5),x6,x7,x8,x9]/\ak H11 H') ⟨_,_,_,_,rfl,ak.refl _⟩ ?_ ?_
   ·rintro k σ H12 hk ⟨x6,x7,x8,x9,rfl,iG⟩
    have hx:vsA[k]? = some vsA[k]:=Jc hk
    obtain⟨lv,ds,us,ev,JF,LD,pt⟩:=gf _ (Jx hk)
    rw[ev] at hx
    refine⟨⟨_,_,aM.of (iG _ _ n11.at),hx⟩,?_⟩
    rintro x' H13 ⟨rfl,hy⟩
    have e:=hy _ (aM.of (iG _ _ n11.at))
    rw[hx] at e;cases e
    obtain⟨d1,d2,d3,d4,d5,rfl⟩:=FZ pt.l
    have ul:=LD.len
    obtain⟨v1,v2,v3,v4,v5,rfl⟩:=FZ (xs:=us) ul
    have JF:=iG _ _ (eN _ _ JF)
    have LD:=(LD.same eN).same iG
    have fv:=xh LD pt
    have gs:=wu pt
    obtain⟨z1,z2,z3⟩:=kL _ gs.list.pz
    have f2:(PyData.list [d1,d2,d3,d4,d5]).depth<=40:=Jg gs.list.dp (by decide)
    have f3:(PyData.list [d1,d2,d3,d4,d5]).shown.length<=sizeLine:=by
     have:=gs.list.wt
     exact Jg (show _<=16000000 by omega) (by decide)
    have dv:Den K _ (.list [d1,d2,d3,d4,d5]) (.ref lv):=Den.list (aM.of JF) LD
    obtain⟨tk1,tk2⟩:=Fb pt
    refine gn ⟨_,rfl,_,_,rfl,dv,z2,f2,f3,gn ?_⟩
    refine⟨_,rfl,lv,v1,v2,v3,v4,v5,d1,d2,d3,d4,d5,rfl,aM.of JF,fv,fun H14 Aw=>gn ?_⟩
    dsimp only
    refine jX (te:=MP _ _ _) (fun v H'=>ak H14 H'/\Den K H' (kB d1 d2 d3 d4 d5) v) (fun Qn qn =>?_) ?_
    ·have Fo:=fv.same Aw
     cases hw:gb d1 d2 d3 d4 d5 with
     | none=>
      obtain⟨o1,o2,o3⟩:=BU hw
      refine⟨_,rfl,.inl ⟨rfl,_,rfl,bw ?_⟩⟩
      refine uD rfl (aM.of (Aw _ _ JF)) (aE Fo.e1 (aE Fo.e2 (aE Fo.e3 er))) (fun d hd =>?_) fun p u1 u2 u3 H' s' hp hp' qR=>qn _ _ ⟨s',?_⟩
      ·simp only[Jm,J7,or_false] at hd
       rcases hd with rfl|rfl|rfl
       ·exact jr o1
       ·exact jr o2
       ·exact jr o3
      ·unfold kB
       rw[hw]
       have Sz:=Fo.same s'
       exact l7 hp' (dz (xs:=[gu d1,gu d2,gu d3]) qR (aE Sz.e4 (aE Sz.e5 er)))
     | some y=>
      refine⟨_,rfl,.inl ⟨rfl,_,rfl,bh ⟨_,rfl,by show 2<=sizeLine;decide,fun T H' n=>qn _ _ ⟨n.same,?_⟩⟩⟩⟩
      unfold kB
      rw[hw]
      exact jC n.at (aE iy (aE iy er))
    rintro v H15 ⟨Hj,d15⟩
    refine gn ?_
    have Hk:=Aw.trans Hj
    refine⟨_,rfl,lv,v1,v2,v3,v4,v5,d1,d2,d3,d4,d5,rfl,aM.of (Hk _ _ JF),fv.same Hk,fun v' H16 FC d16=>⟨_,rfl,v',v,_,rfl,d16,d15.same FC,tk1,tk2,fun H17 IE =>?_⟩⟩
    have IE:=Hk.trans (FC.trans IE)
    refine⟨_,rfl,bh ?_⟩
    refine⟨_,rfl,_,_,rfl,dv.same IE,z2,f2,f3,_,rfl,.inl ⟨rfl,_,rfl,?_⟩⟩
    rw[decide_eq_true rfl]
    exact bh ⟨_,_,_,_,rfl,iG.trans IE⟩
   ·rintro σ H12 ⟨x6,x7,x8,x9,rfl,iG⟩
    exact⟨⟨_,aM.of (iG _ _ n11.at),Jd _⟩,nx _ _ ⟨_,_,_,_,t7,rfl,((fh.trans Af).trans (Step.same Af.bx iG)).more (by omega)⟩⟩
  ·rintro σ H6 ⟨x6,x7,x8,x9,t6,rfl,fh⟩
   have fo:=fo.same fh.sm
   obtain⟨dx,u1,u2,u3,u4,u5,ho,g1,g2,g3,g4,g5⟩:=fo
   have ho:=eN _ _ ho
   have IX:H6 p5=some (.lst [w1,w2,w3,.int near,.int iB]):=eN _ _ (fh.sm _ _ (by rw[bL p5b p5c];exact hp51))
   have k1:=(wd.1.same fh.sm).same eN
   have k2:=(wd.2.1.same fh.sm).same eN
   have k3:=(wd.2.2.same fh.sm).same eN
   have gs:=wu gd3.LV.gu
   refine⟨_,rfl,m,CF,dx,_,_,rfl,ho,MF.c,MF.n1,rfl,_,rfl,m,CF,dx,_,_,rfl,ho,MF.c,MF.n2,rfl,_,rfl,m,CF,dx,_,_,rfl,ho,MF.c,MF.n3,rfl,_,rfl,m,CF,dx,_,_,rfl,ho,MF.c,MF.n4,rfl,_,rfl,m,CF,dx,_,_,rfl,ho,MF.c,MF.n5,rfl,by show 5<=sizeLine;decide,fun l' H7 n7 =>?_⟩
   have s7:=n7.same
   have up:∀{d:PyData} {v:V},Den K (dN H6 b c) d v->Den K H7 d v:=fun h=>(h.same eN).same s7
   refine⟨_,rfl,.ref l',.ref p5,.list [gu (aI et),gu (aI ju),gu (aI jw),.int near,.int iB],rfl,l7 n7.at (aE (up g1) (aE (up g2) (aE (up g3) (aE (up g4) (aE (up g5) er))))),l7 (s7 _ _ IX) (aE (k1.same s7) (aE (k2.same s7) (aE (k3.same s7) (aE ka (aE ka er))))),J3 gs.list.dp (by decide),Jg gs.list.wt (by decide),fun H8 s8=>⟨_,rfl,bh ?_⟩⟩
   exact⟨_,_,_,_,_,_,_,_,_,rfl,((bX.trans fh).trans (Step.same fh.bx (s7.trans s8))).more (by omega)⟩
 ·rintro σ H2 ⟨t2,x2,x3,x4,x5,x6,x7,x8,x9,rfl,da⟩
  exact q H2
end
theorem lenZ {α:Type}{P:List α->Prop}(h:P []):∀us:List α,us.length=0->P us:=fun us e=>Yz e▸h
theorem bE {α:Type}{P:List α->Prop}{n:Nat}(h:∀a (us:List α),us.length=n->P (a::us))(us:List α)(e:us.length=n+1):P us:=by
 cases us with|nil=>cases e|cons a us=>exact h a us (Nat.succ.inj e)
theorem all_mk {l:PySem.W.OpenLaw}{w:World}{K:Ja}{h:Heap}{mg:Str->Option Value}{fa f1 f2 f3 f4 f5 f6 f7 f8 f9 Od NL Qc N1 Rf Nr Io Q1 QZ PK Ob QJ Q3 Rg QX Nl QM PL OJ Rb PZ Q8 NK:Addr}(X:K.In h)(G:h.Ns mainGlobals mg)(Vn:mg "law" = some (.ref fa))
  {Tf:FuncData}
  {Va:FuncData}
  {SG:FuncData}
  {VD:FuncData}
  {VO:FuncData}
  {S6:FuncData}
  {Tj:FuncData}
  {SM:FuncData}
  {TU:FuncData}
  {OX:FuncData}
  {O5:FuncData}
  {OW:FuncData}
  {N2:FuncData}
  {QS:FuncData}
  {PX:FuncData}
  {PN:FuncData}
  {PJ:FuncData}
  {PM:FuncData}
  {Oh:FuncData}
  {O3:FuncData}
  {QN:FuncData}
  {QH:FuncData}
  {Oy:FuncData}
  {Pa:FuncData}
  {Q6:FuncData}
  {N9:FuncData}
  {QR:FuncData}
  {O1:FuncData}
  {QB:FuncData}
  {Oz:FuncData}
  {N4:FuncData}
  {PH L3:Option Addr} {P2:Array (Option Value)} {Pj Ma Mf LP ID LC:Value}
  {dG:Addr}
  {tT:Addr}
  {pV:Addr}
  {bj:Addr}
  {tG:Addr}
  {pI:Addr}
  {oM:Addr}
  {tu:Addr}
  {pY:Addr}
  {cZ:Addr}
  {Qe:Tok}
  {P4:Tok}
  {Px:Tok}
  {K0:Tok}
  {JX:Tok}
  {MG:Tok}
  {aS:Addr} {Rz:List Value} {UY:Nat} {Vc:Array (Option Value)}
  {aZ:Addr} {Rx:List Value} {Tz:Nat} {S8:Array (Option Value)}
  {aJ:Addr} {R7:List Value} {UX:Nat} {UK:Array (Option Value)}
  {aP:Addr} {Qd:Array DictEntry} {VB:Nat}
  {vZ:Addr} {tX wH:Str} {tJ:List Value} {uB:Bool} {sY:List Str} {tx:List Value} {sQ:Bool} {sN:Option Bool} {uA:Option Addr} {sP tE uO uh um:Option Value}
  {BB:Addr} {yt AF:Str} {zK:List Value} {yJ:List Str} {zB:List Value} {yf:Bool} {yC:Option Bool} {yL:Option Addr} {yW yO yz Ab zF:Option Value}
  {ki:Addr} {yr yg:Option Addr} {yk:Array (Option Value)} {zH y3 yy pT yX:Value}
  {nP:Addr} {DG:Value} {Dx D9:Option Addr} {EW:Array (Option Value)} {Dw DB Dz xo EU:Value}
  (a1:Jh K mainGlobals "made_of" = some (some (.ref f1))) (F1:cR K "made_of" "made_of" (top lQ) f1 Tf)
  (a2:Jh K mainGlobals "is_name" = some (some (.ref f2))) (F2:cR K "is_name" "is_name" (top lh) f2 Va)
  (a3:Jh K mainGlobals "is_code" = some (some (.ref f3))) (F3:cR K "is_code" "is_code" (top lD) f3 SG)
  (a4:Jh K mainGlobals "rest_of" = some (some (.ref f4))) (F4:cR K "rest_of" "rest_of" (top lI) f4 VD)
  (a5:Jh K mainGlobals "is_number" = some (some (.ref f5))) (F5:cR K "is_number" "is_number" (top jj) f5 VO)
  (a6:Jh K mainGlobals "is_entry" = some (some (.ref f6))) (F6:cR K "is_entry" "is_entry" (top jH) f6 S6)
  (a7:Jh K mainGlobals "is_book" = some (some (.ref f7))) (F7:cR K "is_book" "is_book" (top lg) f7 Tj)
  (a8:Jh K mainGlobals "clash" = some (some (.ref f8))) (F8:cR K "clash" "clash" (top qQ) f8 SM)
  (a9:Jh K mainGlobals "free" = some (some (.ref f9))) (F9:cR K "free" "free" (top vj) f9 TU)
  (PD:Jh K mainGlobals "is_free_book_of" = some (some (.ref Od))) (JQ:cR K "is_free_book_of" "is_free_book_of" (top dR) Od OX)
  (OK:Jh K mainGlobals "far_is_shorter" = some (some (.ref NL))) (Mz:cR K "far_is_shorter" "far_is_shorter" (top eL) NL O5)
  (Oa:Jh K mainGlobals "first_wrong" = some (some (.ref Qc))) (Ko:cR K "first_wrong" "first_wrong" (top gC) Qc OW)
  (Rk:Jh K mainGlobals "_law_begin" = some (some (.ref N1))) (Kw:cR K "_law_begin" "_law_begin" (top jf) N1 N2)
  (P0:Jh K mainGlobals "_law_take" = some (some (.ref Rf))) (Mi:cR K "_law_take" "_law_take" (top jW) Rf QS)
  (MR:Jh K mainGlobals "_law_same" = some (some (.ref Nr))) (Ms:cR K "_law_same" "_law_same" (top jI) Nr PX)
  (NR:Jh K mainGlobals "_law_mixed" = some (some (.ref Io))) (LF:cR K "_law_mixed" "_law_mixed" (top iJ) Io PN)
  (Pc:Jh K mainGlobals "_law_codes" = some (some (.ref Q1))) (MB:cR K "_law_codes" "_law_codes" (top jg) Q1 PJ)
  (Qm:Jh K mainGlobals "_law_kinds" = some (some (.ref QZ))) (JY:cR K "_law_kinds" "_law_kinds" (top i9) QZ PM)
  (OH:Jh K mainGlobals "_law_sizes" = some (some (.ref PK))) (Lo:cR K "_law_sizes" "_law_sizes" (top iI) PK Oh)
  (Pk:Jh K mainGlobals "_law_parts" = some (some (.ref Ob))) (Lr:cR K "_law_parts" "_law_parts" (top je) Ob O3)
  (Pw:Jh K mainGlobals "_law_form" = some (some (.ref QJ))) (Mj:cR K "_law_form" "_law_form" (top jL) QJ QN)
  (OL:Jh K mainGlobals "_law_class" = some (some (.ref Q3))) (LJ:cR K "_law_class" "_law_class" (top ja) Q3 QH)
  (QG:Jh K mainGlobals "_law_other" = some (some (.ref Rg))) (KU:cR K "_law_other" "_law_other" (top jd) Rg Oy)
  (Q9:Jh K mainGlobals "_law_other_row" = some (some (.ref QX))) (K5:cR K "_law_other_row" "_law_other_row" (top fu) QX Pa)
  (MZ:Jh K mainGlobals "_law_spoilt" = some (some (.ref Nl))) (LS:cR K "_law_spoilt" "_law_spoilt" (top ie) Nl Q6)
  (PR:Jh K mainGlobals "_law_is_free_book" = some (some (.ref QM))) (LM:cR K "_law_is_free_book" "_law_is_free_book" (top dE) QM N9)
  (Ri:Jh K mainGlobals "_law_is_number" = some (some (.ref PL))) (LZ:cR K "_law_is_number" "_law_is_number" (top fy) PL QR)
  (QF:Jh K mainGlobals "_law_due" = some (some (.ref OJ))) (JT:cR K "_law_due" "_law_due" (top ll) OJ O1)
  (Ow:Jh K mainGlobals "_law_bent_book" = some (some (.ref Rb))) (Kk:cR K "_law_bent_book" "_law_bent_book" (top fC) Rb QB)
  (P9:Jh K mainGlobals "_law_bent" = some (some (.ref PZ))) (KJ:cR K "_law_bent" "_law_bent" (top jR) PZ Oz)
  (Pn:Jh K mainGlobals "_law_told" = some (some (.ref Q8))) (LW:cR K "_law_told" "_law_told" (top j0) Q8 N4)
  (Qt:Jh K mainGlobals "law" = some (some (.ref NK))) (PB:K.lookup NK=some ⟨Pj,PH,.func (Y7 "law" "law" (eT (top gM)) (dA (top gM)) (av (top gM)) .none Ma Mf LP L3 ID LC),P2⟩) (N6:PySem.W.codeIn K ID "law" = true) (O4:Ye K (.ref NK)=true)
  (iU:Jh K mainGlobals "OddError" = some (some (.ref dG)))
  (kX:Jh K mainGlobals "BadRow" = some (some (.ref tT)))
  (j3:Jh K mainGlobals "BadText" = some (some (.ref pV)))
  (lG:Jh K mainGlobals "NoForm" = some (some (.ref bj)))
  (lr:Jh K mainGlobals "NoName" = some (some (.ref tG)))
  (j2:Jh K mainGlobals "NoPlace" = some (some (.ref pI)))
  (iO:Jh K mainGlobals "NoTarget" = some (some (.ref oM)))
  (kZ:Jh K mainGlobals "TooFar" = some (some (.ref tu)))
  (jQ:Jh K mainGlobals "TooFull" = some (some (.ref pY)))
  (rK:Jh K mainGlobals "Form" = some (some (.ref cZ)))
  (RB:Uh K (.ref bj) (.ref pV)=some false)
  (RT:Uh K (.ref bj) (.ref tT)=some false)
  (Rp:Uh K (.ref bj) (.ref tG)=some false)
  (R5:Uh K (.ref bj) (.ref pI)=some false)
  (Ss:Uh K (.ref bj) (.ref oM)=some false)
  (Se:Uh K (.ref bj) (.ref tu)=some false)
  (Sq:Uh K (.ref bj) (.ref pY)=some false)
  (RW:Uh K (.ref bj) (.type "ValueError")=some true)
  (So:Uh K (.ref bj) (.ref dG)=some true)
  (OV:iM K bj)
  (Qa:PySem.W.exmOne K (.ref bj) (.ref dG)=some true)
  (Q2:Jh K mainGlobals "LONGEST_NAME" = some (some (.int 8 Qe)))
  (QY:Jh K mainGlobals "SMALL_LETTERS" = some (some (.str qX P4)))
  (Ov:Jh K mainGlobals "SIGNS" = some (some (.str dF Px)))
  (ND:Jh K mainGlobals "LEAST_NEAR" = some (some (.int 2 K0)))
  (ML:Jh K mainGlobals "MOST_NEAR" = some (some (.int 8 JX)))
  (NA:Jh K mainGlobals "MOST_FAR" = some (some (.int 16 MG)))
  (Qr:Jh K mainGlobals "SPOT_NAMES" = some (some (.ref aS)))
  (QL:K.lookup aS=some ⟨.type "tuple",none,.seq Rz.toArray UY,Vc⟩)
  (Rn:Vals [V.str "a",V.str "b",V.str "c",V.str "d"] Rz)
  (NW:Jh K mainGlobals "SIZE_NAMES" = some (some (.ref aZ)))
  (OQ:K.lookup aZ=some ⟨.type "tuple",none,.seq Rx.toArray Tz,S8⟩)
  (Qo:Vals [V.str "none",V.str "one",V.str "two",V.str "three",V.str "four",V.str "five",V.str "six",V.str "seven",V.str "eight"] Rx)
  (NM:Jh K mainGlobals "JUMPS" = some (some (.ref aJ)))
  (Po:K.lookup aJ=some ⟨.type "tuple",none,.seq R7.toArray UX,UK⟩)
  (Rl:Vals [V.str "jump",V.str "zero"] R7)
  (Pd:Jh K mainGlobals "PARTS" = some (some (.ref aP)))
  (Q7:K.lookup aP=some ⟨.type "dict",none,.dict Qd VB,#[]⟩)
  (Nj:PySem.W.KeysLit w.params Qd.toList)
  (Nw:Qd.toList.map (fun e=>Cu e.key)=aG)
  (Oc:(aP==sysModules)=false)
  (lL:K.lookup dG=some (excClassObj tX wH dG vZ tJ ([.type "ValueError",.type "Exception",.type "BaseException",.type "object"]) uB sY tx sQ sN uA sP tE uO uh um "ValueError.__new__"))
  (lP:PySem.W.excIn K dG [.type "ValueError",.type "Exception",.type "BaseException",.type "object"] "ValueError.__new__" = true)
  (mR:K.lookup bj=some (excClassObj yt AF bj BB zK (.ref dG::[.type "ValueError",.type "Exception",.type "BaseException",.type "object"]) true yJ zB yf yC yL yW yO yz Ab zF "ValueError.__new__"))
  (ox:Ye K (.ref bj)=true)
  (lO:Ut K (.ref bj) "__init__" = some (some (.ref ki)))
  (j7:K.lookup ki=some ⟨.type "function",yr,.func (Y7 "__init__" "NoForm.__init__" (eT (inClass (top gL) 0)) (dA (inClass (top gL) 0)) (av (inClass (top gL) 0)) .none zH y3 yy yg pT yX),yk⟩)
  (oB:PySem.W.codeIn K pT "NoForm.__init__" = true)
  (ou:Ye K (.ref ki)=true)
  (nQ:Ut K (.ref bj) "__setattr__" = some (some (.builtin "object.__setattr__")))
  (nO:Ut K (.ref bj) "why" = some none)
  (nk:PySem.W.mroIn K bj (.type "object")=some true)
  (Hq:PySem.W.plainGet K cZ Str.empty=true)
  (Hr:PySem.W.hasDictIn K cZ=true)
  (Gj:PySem.W.plainOver K cZ=true)
  (Ih:Ut K (.ref cZ) "__setattr__" = some (some (.builtin "object.__setattr__")))
  (Hc:PySem.W.makesIn K cZ=true)
  (IG:Ye K (.ref cZ)=true)
  (jZ:Ut K (.ref cZ) "kinds" = some none)
  (jY:Ut K (.ref cZ) "spots" = some none)
  (jJ:Ut K (.ref cZ) "sizes" = some none)
  (lW:Ut K (.ref cZ) "near" = some none)
  (mU:Ut K (.ref cZ) "far" = some none)
  (rW:Ut K (.ref cZ) "__init__" = some (some (.ref nP)))
  (qU:K.lookup nP=some ⟨DG,Dx,.func (Y7 "__init__" "Form.__init__" (eT (inClass (top lB) 0)) (dA (inClass (top lB) 0)) (av (inClass (top lB) 0)) .none Dw DB Dz D9 xo EU),EW⟩)
  (rC:PySem.W.codeIn K xo "Form.__init__" = true)
  (qL:Ye K (.ref nP)=true)
  (qP:PySem.W.isFn K (.ref nP)=true)
  (y0:Jh K mainGlobals "sorted" = some none)
  (y1:Jh K mainGlobals "dict" = some none)
  (y2:Jh K mainGlobals "ValueError" = some none)
  (z0:Jh K mainGlobals "len" = some none) (z1:Jh K mainGlobals "range" = some none) (z2:Jh K mainGlobals "max" = some none) (z3:Jh K mainGlobals "min" = some none) (z4:Jh K mainGlobals "sum" = some none) (z5:Jh K mainGlobals "all" = some none) (z6:Jh K mainGlobals "any" = some none) (z7:Jh K mainGlobals "list" = some none) (z8:Jh K mainGlobals "tuple" = some none) (z9:Jh K mainGlobals "int" = some none) (Qh:Jh K mainGlobals "str" = some none) (Qg:Jh K mainGlobals "bool" = some none) (Qf:Jh K mainGlobals "zip" = some none) (N0:Jh K mainGlobals "enumerate" = some none) (O8:Jh K mainGlobals "isinstance" = some none) (P8:Jh K mainGlobals "divmod" = some none) :
  ∃fd:FuncData,(∀(s:Shared) (v:Value),BindsTo s fd ⟨[v],[]⟩ [("_law_script",v)])/\∀base:Heap,K.In base->base.Ns mainGlobals mg->bC l.prog w K mg base gG 11 fa fd ["_law_script"] (xi K):=by
 have e:=Vn.symm.trans (Jj X G Qt)
 cases e
 have T:Nm mg:=⟨Ud X G z0,Ud X G z1,Ud X G z2,Ud X G z3,Ud X G z4,Ud X G z5,Ud X G z6,Ud X G z7,Ud X G z8,Ud X G z9,Ud X G Qh,Ud X G Qg,Ud X G Qf,Ud X G N0,Ud X G O8,Ud X G P8⟩
 have d7:=Ud X G y0
 have fB:=Ud X G y1
 have hU:=Ud X G y2
 have fO:=Jj X G Q2
 have fx:=Jj X G QY
 have qy:=Jj X G Ov
 have kP:=Jj X G ND
 have l9:=Jj X G ML
 have oP:=Jj X G NA
 have qw:=Jj X G NM
 have hJ:∀H,cE K H aJ [V.str "jump",V.str "zero"]:=vO Po Rl (by decide)
 have VA:Lh K l.prog w mg aP aS aZ K0 JX MG:=⟨Jj X G Pd,Jj X G Qr,Jj X G NW,⟨_,_,_,⟨Q7,Nj,qo Nj,by rw[uq,Nw];decide +kernel,Oc⟩,uq.trans Nw⟩,vO QL Rn (by decide),vO OQ Qo (by decide),Jj X G ND,Jj X G ML,Jj X G NA⟩
 have tI:mq K bj "why":=CL mR nQ nO nk
 have nA:Ld K bj ki:=⟨⟨_,_,_,_,_,_,_,_,_,_,_,_,_,_,_,_,mR,Ci lL lP⟩,lO,⟨_,j7,rfl⟩,ox⟩
 have ql:=bp (st:=inClass (top gL) 0) j7 oB ou
 have mX:=ql.binds (ps:=["self", "why"]) fun _ _ _ _ _ _=>bE fun _=>bE fun _=>lenZ rfl
 have xG:=bp (st:=inClass (top lB) 0) qU rC qL
 have HL:=xG.binds (ps:=["self", "kinds", "spots", "sizes", "near", "far"]) fun _ _ _ _ _ _=>bE fun _=>bE fun _=>bE fun _=>bE fun _=>bE fun _=>bE fun _=>lenZ rfl
 have MF:EY K cZ:=⟨⟨Hq,Hr,Gj,Ih⟩,jZ,jY,jJ,lW,mU⟩
 have Vb:Mk K cZ nP:=⟨Hc,rW,qP,IG⟩
 have eP:=Jj X G iU
 have nN:=Jj X G kX
 have lj:=Jj X G j3
 have gR:=Jj X G lG
 have oJ:=Jj X G lr
 have lU:=Jj X G j2
 have jN:=Jj X G iO
 have nj:=Jj X G kZ
 have lz:=Jj X G jQ
 have vU:=Jj X G rK
 have k1:=F1.kp
 have b1:=F1.binds (ps:=["text", "signs"]) fun _ _ _ _ _ _=>bE fun _=>bE fun _=>lenZ rfl
 have k2:=F2.kp
 have b2:=F2.binds (ps:=["thing"]) fun _ _ _ _ _ _=>bE fun _=>lenZ rfl
 have k3:=F3.kp
 have b3:=F3.binds (ps:=["thing"]) fun _ _ _ _ _ _=>bE fun _=>lenZ rfl
 have k4:=F4.kp
 have b4:=F4.binds (ps:=["one", "other"]) fun _ _ _ _ _ _=>bE fun _=>bE fun _=>lenZ rfl
 have k5:=F5.kp
 have b5:=F5.binds (ps:=["thing"]) fun _ _ _ _ _ _=>bE fun _=>lenZ rfl
 have k6:=F6.kp
 have b6:=F6.binds (ps:=["thing"]) fun _ _ _ _ _ _=>bE fun _=>lenZ rfl
 have k7:=F7.kp
 have b7:=F7.binds (ps:=["thing"]) fun _ _ _ _ _ _=>bE fun _=>lenZ rfl
 have k8:=F8.kp
 have b8:=F8.binds (ps:=["book"]) fun _ _ _ _ _ _=>bE fun _=>lenZ rfl
 have k9:=F9.kp
 have b9:=F9.binds (ps:=["book"]) fun _ _ _ _ _ _=>bE fun _=>lenZ rfl
 have K9:=JQ.kp
 have UO:=JQ.binds (ps:=["thing", "names"]) fun _ _ _ _ _ _=>bE fun _=>bE fun _=>lenZ rfl
 have SY:=Mz.kp
 have S2:=Mz.binds (ps:=["kinds", "near", "far"]) fun _ _ _ _ _ _=>bE fun _=>bE fun _=>bE fun _=>lenZ rfl
 have TX:=Ko.kp
 have Vr:=Ko.binds (ps:=["kinds", "spots", "sizes", "near", "far"]) fun _ _ _ _ _ _=>bE fun _=>bE fun _=>bE fun _=>bE fun _=>bE fun _=>lenZ rfl
 have zg:=Kw.kp
 have SK:=Kw.binds (ps:=["_law_script"]) fun _ _ _ _ _ _=>bE fun _=>lenZ rfl
 have Ta:=Mi.kp
 have TH:=Mi.binds (ps:=["_law_state", "_law_many"]) fun _ _ _ _ _ _=>bE fun _=>bE fun _=>lenZ rfl
 have R8:=Ms.kp
 have Sj:=Ms.binds (ps:=["_law_found", "_law_due_here"]) fun _ _ _ _ _ _=>bE fun _=>bE fun _=>lenZ rfl
 have UB:=LF.kp
 have SJ:=LF.binds (ps:=["_law_state", "_law_some"]) fun _ _ _ _ _ _=>bE fun _=>bE fun _=>lenZ rfl
 have Te:=MB.kp
 have S1:=MB.binds (ps:=["_law_state", "_law_many", "_law_most"]) fun _ _ _ _ _ _=>bE fun _=>bE fun _=>bE fun _=>lenZ rfl
 have SW:=JY.kp
 have S0:=JY.binds (ps:=[]) fun _ _ _ _ _ _=>lenZ rfl
 have VP:=Lo.kp
 have VM:=Lo.binds (ps:=[]) fun _ _ _ _ _ _=>lenZ rfl
 have VC:=Lr.kp
 have Vo:=Lr.binds (ps:=["_law_state"]) fun _ _ _ _ _ _=>bE fun _=>lenZ rfl
 have Vz:=Mj.kp
 have TJ:=Mj.binds (ps:=["_law_parts_here"]) fun _ _ _ _ _ _=>bE fun _=>lenZ rfl
 have Tc:=LJ.kp
 have UI:=LJ.binds (ps:=["_law_caught"]) fun _ _ _ _ _ _=>bE fun _=>lenZ rfl
 have TF:=KU.kp
 have TB:=KU.binds (ps:=["_law_state", "_law_thing"]) fun _ _ _ _ _ _=>bE fun _=>bE fun _=>lenZ rfl
 have SX:=K5.kp
 have VL:=K5.binds (ps:=["_law_state", "_law_row"]) fun _ _ _ _ _ _=>bE fun _=>bE fun _=>lenZ rfl
 have R4:=LS.kp
 have Sk:=LS.binds (ps:=["_law_state", "_law_thing"]) fun _ _ _ _ _ _=>bE fun _=>bE fun _=>lenZ rfl
 have Th:=LM.kp
 have VR:=LM.binds (ps:=["_law_thing", "_law_names"]) fun _ _ _ _ _ _=>bE fun _=>bE fun _=>lenZ rfl
 have TV:=LZ.kp
 have UW:=LZ.binds (ps:=["_law_thing", "_law_low", "_law_top"]) fun _ _ _ _ _ _=>bE fun _=>bE fun _=>bE fun _=>lenZ rfl
 have US:=JT.kp
 have UL:=JT.binds (ps:=["_law_parts_here"]) fun _ _ _ _ _ _=>bE fun _=>lenZ rfl
 have UN:=Kk.kp
 have UJ:=Kk.binds (ps:=["_law_state", "_law_book"]) fun _ _ _ _ _ _=>bE fun _=>bE fun _=>lenZ rfl
 have S5:=KJ.kp
 have VW:=KJ.binds (ps:=["_law_state", "_law_parts_here"]) fun _ _ _ _ _ _=>bE fun _=>bE fun _=>lenZ rfl
 have Vm:=LW.kp
 have UZ:=LW.binds (ps:=["_law_parts_here"]) fun _ _ _ _ _ _=>bE fun _=>lenZ rfl
 have Tw:=bp (st:=top gM) PB N6 O4
 refine⟨Y7 "law" "law" (eT (top gM)) (dA (top gM)) (av (top gM)) .none Ma Mf LP L3 ID LC,fun s v =>.of_eq rfl,fun base hB hG =>?_⟩
 have nK:=oW (P:=l.prog) (w:=w) (mg:=mg) (base:=base) ql tI
 have FW:Fn l.prog w K mg base 1 "made_of" ["text", "signs"] (rB):=⟨f1,_,Dn F1 T,b1,k1,Jj X G a1⟩
 have QI:Fn l.prog w K mg base 2 "is_name" ["thing"] (ko K cM):=⟨f2,_,Ak F2 T fO fx FW,b2,k2,Jj X G a2⟩
 have NN:Fn l.prog w K mg base 2 "is_code" ["thing"] (ko K cj):=⟨f3,_,zR F3 T qy FW,b3,k3,Jj X G a3⟩
 have JS:Fn l.prog w K mg base 1 "rest_of" ["one", "other"] (rE):=⟨f4,_,EG F4 T,b4,k4,Jj X G a4⟩
 have Oj:Fn l.prog w K mg base 1 "is_number" ["thing"] (vJ K):=⟨f5,_,Bj F5 T,b5,k5,Jj X G a5⟩
 have Pl:Fn l.prog w K mg base 3 "is_entry" ["thing"] (ko K bg):=⟨f6,_,uZ F6 T QI NN,b6,k6,Jj X G a6⟩
 have OY:Fn l.prog w K mg base 4 "is_book" ["thing"] (m6 K):=⟨f7,_,yR F7 T Pl,b7,k7,Jj X G a7⟩
 have Vu:Fn l.prog w K mg base 2 "clash" ["book"] (rz K):=⟨f8,_,LR F8 T JS,b8,k8,Jj X G a8⟩
 have Vd:Fn l.prog w K mg base 3 "free" ["book"] (wo K):=⟨f9,_,EK F9 T Vu,b9,k9,Jj X G a9⟩
 have Oe:Fn l.prog w K mg base 5 "is_free_book_of" ["thing", "names"] (A9 K):=⟨Od,_,Hl JQ T d7 OY Vd,UO,K9,Jj X G PD⟩
 have O9:Fn l.prog w K mg base 1 "far_is_shorter" ["kinds", "near", "far"] (BI K):=⟨NL,_,HY Mz T fB qw hJ,S2,SY,Jj X G OK⟩
 have UG:Fn l.prog w K mg base 6 "first_wrong" ["kinds", "spots", "sizes", "near", "far"] (Hz K):=⟨Qc,_,LO Ko T VA Oe Oj O9,Vr,TX,Jj X G Oa⟩
 have GC:Fn l.prog w K mg base 1 "_law_begin" ["_law_script"] (rP K):=⟨N1,_,CD Kw T,SK,zg,Jj X G Rk⟩
 have L1:Fn l.prog w K mg base 1 "_law_take" ["_law_state", "_law_many"] (vX):=⟨Rf,_,E2 Mi T,TH,Ta,Jj X G P0⟩
 have FY:Fn l.prog w K mg base 1 "_law_take" ["_law_state", "_law_many"] (oX):=Fn.imp L1 (fun _ _ _ _ h=>DY h)
 have JN:∀n:Nat,Fn l.prog w K mg base (n+0) "_law_same" ["_law_found", "_law_due_here"] (qG K n):=fun n=>by
  induction n with
  | zero=>exact⟨Nr,_,⟨fun vs H Q E h=>absurd h (by rintro⟨_,_,_,_,_,_,z,_⟩;exact absurd z (Y4 _)),fun A outer s H args us vs Q E _ _ _ _ h=>absurd h (by rintro⟨_,_,_,_,_,_,z,_⟩;exact absurd z (Y4 _))⟩,Sj,R8,Jj X G MR⟩
  | succ n ih=>exact⟨Nr,_,De Ms T ih,Sj,R8,Jj X G MR⟩
 have JP:Fn l.prog w K mg base 2 "_law_mixed" ["_law_state", "_law_some"] (xP K):=⟨Io,_,A2 LF T FY,SJ,UB,Jj X G NR⟩
 have Qb:Fn l.prog w K mg base 3 "_law_codes" ["_law_state", "_law_many", "_law_most"] (Ca):=⟨Q1,_,GN MB T FY JP,S1,Te,Jj X G Pc⟩
 have BW:Fn l.prog w K mg base 1 "_law_kinds" [] (l8 aG):=⟨QZ,_,Cw JY T,S0,SW,Jj X G Qm⟩
 have Bw:Fn l.prog w K mg base 1 "_law_sizes" [] (l8 bQ):=⟨PK,_,A5 Lo T,VM,VP,Jj X G OH⟩
 have NU:Fn l.prog w K mg base 4 "_law_parts" ["_law_state"] (Cb K):=⟨Ob,_,AE Lr T fB BW Bw FY JP Qb,Vo,VC,Jj X G Pk⟩
 have RE:E1 l.prog w K mg base 9 "_law_form" ["_law_parts_here"] (DC K cZ bj):=⟨QJ,_,Kj Mj T Vb vU (KZ (P:=l.prog) (w:=w) (mg:=mg) (base:=base) xG T MF gR nA nK mX UG) HL,TJ,Vz,Jj X G Pw⟩
 have NJ:Fn l.prog w K mg base 9 "_law_form" ["_law_parts_here"] (CO K cZ):=E1.calm RE (fun _ _ _ _ h=>Gz h)
 have Qj:Fn l.prog w K mg base 1 "_law_class" ["_law_caught"] (CV K bj):=⟨Q3,_,Gp LJ T hU eP gR lj nN oJ lU jN nj lz OV tI (fun D hD=>by simp at hD;rcases hD with rfl|rfl|rfl|rfl|rfl|rfl|rfl<;>assumption) (by assumption) (by assumption),UI,Tc,Jj X G OL⟩
 have UM:Fn l.prog w K mg base 2 "_law_other" ["_law_state", "_law_thing"] (rT K):=⟨Rg,_,vz KU T FY,TB,TF,Jj X G QG⟩
 have UC:Fn l.prog w K mg base 2 "_law_other_row" ["_law_state", "_law_row"] (il K):=⟨QX,_,Ah K5 T FY,VL,SX,Jj X G Q9⟩
 have T4:∀n:Nat,Fn l.prog w K mg base (n+2) "_law_spoilt" ["_law_state", "_law_thing"] (kI K n):=fun n=>by
  induction n with
  | zero=>exact⟨Nl,_,⟨fun vs H Q E h=>absurd h (by rintro⟨_,_,_,_,_,_,z,_⟩;exact absurd z (Y4 _)),fun A outer s H args us vs Q E _ _ _ _ h=>absurd h (by rintro⟨_,_,_,_,_,_,z,_⟩;exact absurd z (Y4 _))⟩,Sk,R4,Jj X G MZ⟩
  | succ n ih=>exact⟨Nl,_,zy LS T FY UM UC ih,Sk,R4,Jj X G MZ⟩
 have OB:Fn l.prog w K mg base 1 "_law_is_free_book" ["_law_thing", "_law_names"] (CW K):=⟨QM,_,Gu LM T d7,VR,Th,Jj X G PR⟩
 have KL:Fn l.prog w K mg base 1 "_law_is_number" ["_law_thing", "_law_low", "_law_top"] (wj K):=⟨PL,_,E7 LZ T,UW,TV,Jj X G Ri⟩
 have Ot:Fn l.prog w K mg base 2 "_law_due" ["_law_parts_here"] (CI K):=⟨OJ,_,Iv JT T fB BW Bw OB KL,UL,US,Jj X G QF⟩
 have Tp:Fn l.prog w K mg base 6 "_law_bent_book" ["_law_state", "_law_book"] (He K):=⟨Rb,_,Kh Kk T FY (T4 3),UJ,UN,Jj X G Ow⟩
 have S4:Fn l.prog w K mg base 7 "_law_bent" ["_law_state", "_law_parts_here"] (Gy K):=⟨PZ,_,zX KJ T fB FY Tp,VW,S5,Jj X G P9⟩
 have Kl:Fn l.prog w K mg base 10 "_law_told" ["_law_parts_here"] (u7 K):=⟨Q8,_,Ey LW T MF eP Qa RE Qj,UZ,Vm,Jj X G Pn⟩
 exact GD Tw T MF GC NU NJ S4 Ot Kl (JN 8)
theorem walk {l:PySem.W.OpenLaw}{q:Program}{loose:List Str}{XP:(Str->Option Value)->Heap->Prop}{YP:World->Heap->Prop}{d:DefRec}{K:Params->Ja}(hn:l.most=some 63)(KN:d.params.defaults=[])
  (hY:∀(w:World) (h:Heap),YP w h->(K w.params).In h)
  (F:∀(w:World) (mg:Str->Option Value) (fa:Addr) (h:Heap),(K w.params).In h->h.Ns mainGlobals mg->mg d.name=some (.ref fa) ->
   ∃fd:FuncData,(∀(s:Shared) (u:Value),BindsTo s fd ⟨[u],[]⟩ [("_law_script",u)])/\∀base:Heap,(K w.params).In base->base.Ns mainGlobals mg->bC l.prog w (K w.params) mg base gG 11 fa fd ["_law_script"] (xi (K w.params))) :
  PySem.W.WalkO q loose XP YP l.row.toRowW d [] (fun f vs=>PySem.call f vs):=
 L2.EA (n:=63) (k:=11) (x := "_law_script") (CX:=fun _=>gG) (sp:=fun w=>xi (K w.params)) hn (by decide) KN ⟨rfl,by decide,by decide,rfl⟩ hY F (fun _ _ a ns hl _ hS=>⟨a,ns,rfl,hS,hl,fun _=>rfl⟩) fun _ _ _ _ _ z=>z
end Z
open PySem PySem.W PyProof.Rows L2
set_option maxRecDepth 100000 in
set_option maxHeartbeats 0 in
theorem PySem.Challenge.cw_oddlong_k29_forms_made_and_refused_holds : PySem.Challenge.rw_oddlong_k29_forms_made_and_refused.Holds := by
  refine Z.Ei ?hw ?hc
  (case hw => w_witness2)
  k_fill
  refine Z.walk (l := PySem.Challenge.rw_oddlong_k29_forms_made_and_refused) rfl rfl (fun w h Y => Y) ?F
  case F =>
    intro w mg fa h KX G hmg
    refine' Z.all_mk KX G hmg ?a1 ?F1 ?a2 ?F2 ?a3 ?F3 ?a4 ?F4 ?a5 ?F5 ?a6 ?F6 ?a7 ?F7 ?a8 ?F8 ?a9 ?F9 ?PD ?JQ ?OK ?Mz ?Oa ?Ko ?Rk ?Kw ?P0 ?Mi ?MR ?Ms ?NR ?LF ?Pc ?MB ?Qm ?JY ?OH ?Lo ?Pk ?Lr ?Pw ?Mj ?OL ?LJ ?QG ?KU ?Q9 ?K5 ?MZ ?LS ?PR ?LM ?Ri ?LZ ?QF ?JT ?Ow ?Kk ?P9 ?KJ ?Pn ?LW ?Qt ?PB ?N6 ?O4 ?iU ?kX ?j3 ?lG ?lr ?j2 ?iO ?kZ ?jQ ?rK ?RB ?RT ?Rp ?R5 ?Ss ?Se ?Sq ?RW ?So ?OV ?Qa ?Q2 ?QY ?Ov ?ND ?ML ?NA ?Qr ?QL ?Rn ?NW ?OQ ?Qo ?NM ?Po ?Rl ?Pd ?Q7 ?Nj ?Nw ?Oc ?lL ?lP ?mR ?ox ?lO ?j7 ?oB ?ou ?nQ ?nO ?nk ?Hq ?Hr ?Gj ?Ih ?Hc ?IG ?jZ ?jY ?jJ ?lW ?mU ?rW ?qU ?rC ?qL ?qP ?y0 ?y1 ?y2 ?z0 ?z1 ?z2 ?z3 ?z4 ?z5 ?z6 ?z7 ?z8 ?z9 ?Qh ?Qg ?Qf ?N0 ?O8 ?P8
    (case a1 => k_is); (case F1 => (refine' bp ?l ?c ?k; (case l => k_is); (case c => k_is); (case k => k_is))); (case a2 => k_is); (case F2 => (refine' bp ?l ?c ?k; (case l => k_is); (case c => k_is); (case k => k_is))); (case a3 => k_is); (case F3 => (refine' bp ?l ?c ?k; (case l => k_is); (case c => k_is); (case k => k_is))); (case a4 => k_is); (case F4 => (refine' bp ?l ?c ?k; (case l => k_is); (case c => k_is); (case k => k_is)))
    (case a5 => k_is); (case F5 => (refine' bp ?l ?c ?k; (case l => k_is); (case c => k_is); (case k => k_is))); (case a6 => k_is); (case F6 => (refine' bp ?l ?c ?k; (case l => k_is); (case c => k_is); (case k => k_is))); (case a7 => k_is); (case F7 => (refine' bp ?l ?c ?k; (case l => k_is); (case c => k_is); (case k => k_is))); (case a8 => k_is); (case F8 => (refine' bp ?l ?c ?k; (case l => k_is); (case c => k_is); (case k => k_is)))
    (case a9 => k_is); (case F9 => (refine' bp ?l ?c ?k; (case l => k_is); (case c => k_is); (case k => k_is))); (case PD => k_is); (case JQ => (refine' bp ?l ?c ?k; (case l => k_is); (case c => k_is); (case k => k_is))); (case OK => k_is); (case Mz => (refine' bp ?l ?c ?k; (case l => k_is); (case c => k_is); (case k => k_is))); (case Oa => k_is); (case Ko => (refine' bp ?l ?c ?k; (case l => k_is); (case c => k_is); (case k => k_is)))
    (case Rk => k_is); (case Kw => (refine' bp ?l ?c ?k; (case l => k_is); (case c => k_is); (case k => k_is))); (case P0 => k_is); (case Mi => (refine' bp ?l ?c ?k; (case l => k_is); (case c => k_is); (case k => k_is))); (case MR => k_is); (case Ms => (refine' bp ?l ?c ?k; (case l => k_is); (case c => k_is); (case k => k_is))); (case NR => k_is); (case LF => (refine' bp ?l ?c ?k; (case l => k_is); (case c => k_is); (case k => k_is)))
    (case Pc => k_is); (case MB => (refine' bp ?l ?c ?k; (case l => k_is); (case c => k_is); (case k => k_is))); (case Qm => k_is); (case JY => (refine' bp ?l ?c ?k; (case l => k_is); (case c => k_is); (case k => k_is))); (case OH => k_is); (case Lo => (refine' bp ?l ?c ?k; (case l => k_is); (case c => k_is); (case k => k_is))); (case Pk => k_is); (case Lr => (refine' bp ?l ?c ?k; (case l => k_is); (case c => k_is); (case k => k_is)))
    (case Pw => k_is); (case Mj => (refine' bp ?l ?c ?k; (case l => k_is); (case c => k_is); (case k => k_is))); (case OL => k_is); (case LJ => (refine' bp ?l ?c ?k; (case l => k_is); (case c => k_is); (case k => k_is))); (case QG => k_is); (case KU => (refine' bp ?l ?c ?k; (case l => k_is); (case c => k_is); (case k => k_is))); (case Q9 => k_is); (case K5 => (refine' bp ?l ?c ?k; (case l => k_is); (case c => k_is); (case k => k_is)))
    (case MZ => k_is); (case LS => (refine' bp ?l ?c ?k; (case l => k_is); (case c => k_is); (case k => k_is))); (case PR => k_is); (case LM => (refine' bp ?l ?c ?k; (case l => k_is); (case c => k_is); (case k => k_is))); (case Ri => k_is); (case LZ => (refine' bp ?l ?c ?k; (case l => k_is); (case c => k_is); (case k => k_is))); (case QF => k_is); (case JT => (refine' bp ?l ?c ?k; (case l => k_is); (case c => k_is); (case k => k_is)))
    (case Ow => k_is); (case Kk => (refine' bp ?l ?c ?k; (case l => k_is); (case c => k_is); (case k => k_is))); (case P9 => k_is); (case KJ => (refine' bp ?l ?c ?k; (case l => k_is); (case c => k_is); (case k => k_is))); (case Pn => k_is); (case LW => (refine' bp ?l ?c ?k; (case l => k_is); (case c => k_is); (case k => k_is))); (case Qt => k_is); (case PB => k_is)
    (case N6 => k_is); (case O4 => k_is); (case iU => k_is); (case kX => k_is); (case j3 => k_is); (case lG => k_is); (case lr => k_is); (case j2 => k_is)
    (case iO => k_is); (case kZ => k_is); (case jQ => k_is); (case rK => k_is); (case RB => exact gr (by k_is) (by k_is) (by k_is) rfl); (case RT => exact gr (by k_is) (by k_is) (by k_is) rfl); (case Rp => exact gr (by k_is) (by k_is) (by k_is) rfl); (case R5 => exact gr (by k_is) (by k_is) (by k_is) rfl)
    (case Ss => exact gr (by k_is) (by k_is) (by k_is) rfl); (case Se => exact gr (by k_is) (by k_is) (by k_is) rfl); (case Sq => exact gr (by k_is) (by k_is) (by k_is) rfl); (case RW => exact Ht (by decide +kernel) (by k_is)); (case So => exact gr (by k_is) (by k_is) (by k_is) rfl); (case OV => exact ⟨BD (by k_is), by k_is, by k_is, by k_is, by k_is, by k_is, by k_is, by k_is⟩); (case Qa => exact EO (by k_is) (by k_is) (by k_is) (by k_is)); (case Q2 => k_is)
    (case QY => k_is); (case Ov => k_is); (case ND => k_is); (case ML => k_is); (case NA => k_is); (case Qr => k_is); (case QL => k_is); (case Rn => repeat (first | exact Paired.nil | refine Paired.cons ⟨_, rfl⟩ ?_))
    (case NW => k_is); (case OQ => k_is); (case Qo => repeat (first | exact Paired.nil | refine Paired.cons ⟨_, rfl⟩ ?_)); (case NM => k_is); (case Po => k_is); (case Rl => repeat (first | exact Paired.nil | refine Paired.cons ⟨_, rfl⟩ ?_)); (case Pd => k_is); (case Q7 => k_is)
    (case Nj => repeat (first | exact trivial | refine ⟨⟨_, _, rfl, rfl⟩, ?_⟩)); (case Nw => rfl); (case Oc => decide); (case lL => k_is); (case lP => k_exc); (case mR => k_is); (case ox => k_is); (case lO => k_is)
    (case j7 => k_is); (case oB => k_is); (case ou => k_is); (case nQ => k_is); (case nO => k_is); (case nk => k_is); (case Hq => k_is); (case Hr => k_is)
    (case Gj => k_is); (case Ih => k_is); (case Hc => k_is); (case IG => k_is); (case jZ => k_is); (case jY => k_is); (case jJ => k_is); (case lW => k_is)
    (case mU => k_is); (case rW => k_is); (case qU => k_is); (case rC => k_is); (case qL => k_is); (case qP => k_is); (case y0 => k_is); (case y1 => k_is)
    (case y2 => k_is); (case z0 => k_is); (case z1 => k_is); (case z2 => k_is); (case z3 => k_is); (case z4 => k_is); (case z5 => k_is); (case z6 => k_is)
    (case z7 => k_is); (case z8 => k_is); (case z9 => k_is); (case Qh => k_is); (case Qg => k_is); (case Qf => k_is); (case N0 => k_is); (case O8 => k_is)
    (case P8 => k_is)
