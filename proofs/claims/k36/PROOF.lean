import PyProof.Rows.All
import KE.KSortTup
import KE.KDictOf
import KE.KIntText
import KE.KFromBytes
import KE.KTryMore
import KE.KItemsList
import KE.KRevIter
import KE.KMinKey
import ObjForm.ListNI
import Wide.Line
import OpenK.KOwn
import OpenK.KWalk
import OpenK.KLine
import Lean
import PySem.Challenge.RW_oddlong_k36_places_by_fars
local macro_rules | `(tactic| omega) => `(tactic| lia)
set_option Elab.async false
set_option linter.all false
set_option maxRecDepth 100000
open PySem.W renaming Frag → Ja, nsIn → Jg, mg_of → Jj, mg_none_of → J6, findIn → Ua, keepIn → Uu, kia_one → U1, emptyDict → U7, kitOne → Yi, fnOf → Yp, instObj → Yw, codeIn → Y7
open PySem.Heap renaming get?_push_of_some → Jb, lt_size → Jf, get?_push_size → Jk, get?_update_self → J3, get?_update_other → J5, size_push → J8, SameBut → Uz
open List renaming length_map → Jc, getElem?_eq_getElem → Jd, getElem?_map → Ji, length_cons → Jn, mem_cons_of_mem → Jo, length_append → Jp, mem_cons_self → Jr, size_toArray → Js, getElem?_eq_some_iff → Jt, replicate → Ju, mem_cons → Jv, mem_append_right → Jw, map_append → Jy, mem_singleton → Jz, map_cons → J0, mem_of_getElem? → J2, getElem_mem → Ub, lookup_cons → Ud, not_mem_nil → Ue, mem_append → Ug, mem_map → Uh, getElem?_append_right → Ui, getElem?_append_left → Uj, getD_eq_getElem?_getD → Uk, length_replicate → Ul, length_take → Uq, mem_iff_getElem? → Ut, pairwise_iff_getElem → Ux, range → Uy, map_map → U0, take_succ_eq_append_getElem → U3, length_zip → U4, getElem?_zip_eq_some → U5, filterMap_cons → U6, nodup_cons → U9, getElem?_set_ne → Yb, getElem?_replicate → Yc, any_cons → Yd, sum_cons → Ye, getElem?_set_self → Yg, replicate_succ → Yk, append_nil → Ym, forIn_cons → Yn, eraseIdx_eq_take_drop_succ → Yo, mem_append_left → Yq, pairwise_append → Ys, mem_iff_getElem → Yt, eq_nil_of_length_eq_zero → Yu, mem_map_of_mem → Yx, map_congr_left → Yy, take_of_length_le → Yz, lookup → Y0, all_eq_true → Y2, take_length → Y3, length_nil → Y5, length_set → Y6, length_drop → Y8, forIn_nil → Wa
open Nat renaming le_refl → Je, le_trans → Jh, ne_of_lt → Jm, lt_of_lt_of_le → Jq, lt_of_le_of_lt → J1, lt_irrefl → J7, ne_of_gt → Uc, zero_le → Um, le_add_right → Ur, le_of_lt → U8, le_succ → Yr, succ_le_succ → Y9
open Bool renaming false_ne_true → Jl, and_eq_true → Jx, false_eq_true → Us, eq_false_iff → Uw, true_and → U2, false_and → Yh, eq_iff_iff → Y4
open Array renaming getElem?_eq_getElem → J9, length_toList → Uo, getElem?_eq_some_iff → Uv, getElem?_eq_none → Yj
open Int renaming toNat_of_nonneg → Yl, toNat_natCast → Yv, le_refl → Y1
namespace L2
set_option genSizeOf false
set_option genInjectivity false
inductive dS {α0 α1:Type}(P: α0 -> α1->Prop):Prop|mk (x0: α0) (x1: α1) (h:P x0 x1):dS P
inductive m7 {α0 α1 α2:Type}(P: α0 -> α1 -> α2->Prop):Prop|mk (x0: α0) (x1: α1) (x2: α2) (h:P x0 x1 x2):m7 P
inductive qi {α0 α1 α2 α3:Type}(P: α0 -> α1 -> α2 -> α3->Prop):Prop|mk (x0: α0) (x1: α1) (x2: α2) (x3: α3) (h:P x0 x1 x2 x3):qi P
inductive wb {α0 α1 α2 α3 α4:Type}(P: α0 -> α1 -> α2 -> α3 -> α4->Prop):Prop|mk (x0: α0) (x1: α1) (x2: α2) (x3: α3) (x4: α4) (h:P x0 x1 x2 x3 x4):wb P
inductive Ch {α0 α1 α2 α3 α4 α5:Type}(P: α0 -> α1 -> α2 -> α3 -> α4 -> α5->Prop):Prop|mk (x0: α0) (x1: α1) (x2: α2) (x3: α3) (x4: α4) (x5: α5) (h:P x0 x1 x2 x3 x4 x5):Ch P
set_option genSizeOf true
set_option genInjectivity true
class ai (P:Prop) (F:outParam (Prop->Prop)):Prop where
 el:P->∀G:Prop,F G->G
theorem ai.go {P:Prop}{F:Prop->Prop}[i:ai P F]{G:Prop}(k:F G):P->G:=fun h=>i.el h G k
instance (priority:=low) elimBase {P:Prop}:ai P (fun G=>P->G):=⟨fun h _ k=>k h⟩
instance Rm {α:Sort u} {P: α->Prop} {F: α->Prop->Prop} [h:∀x,ai (P x) (F x)]:ai (∃x,P x) (fun G=>∀x,F x G):=⟨fun⟨x,hx⟩ G k=>(h x).el hx G (k x)⟩
instance QJ {A B:Prop} {F:Prop->Prop} [h:ai B F]:ai (A/\B) (fun G=>A->F G):=⟨fun⟨a,b⟩ G k=>h.el b G (k a)⟩
instance P8 {α0 α1:Type} {P: α0 -> α1->Prop} {F: α0 -> α1->Prop->Prop} [i:∀x0 x1,ai (P x0 x1) (F x0 x1)]:ai (dS P) (fun G=>∀x0 x1,F x0 x1 G):=⟨fun⟨x0,x1,h⟩ G k=>(i x0 x1).el h G (k x0 x1)⟩
instance P1 {α0 α1 α2:Type} {P: α0 -> α1 -> α2->Prop} {F: α0 -> α1 -> α2->Prop->Prop} [i:∀x0 x1 x2,ai (P x0 x1 x2) (F x0 x1 x2)]:ai (m7 P) (fun G=>∀x0 x1 x2,F x0 x1 x2 G):=⟨fun⟨x0,x1,x2,h⟩ G k=>(i x0 x1 x2).el h G (k x0 x1 x2)⟩
instance Qt {α0 α1 α2 α3:Type} {P: α0 -> α1 -> α2 -> α3->Prop} {F: α0 -> α1 -> α2 -> α3->Prop->Prop} [i:∀x0 x1 x2 x3,ai (P x0 x1 x2 x3) (F x0 x1 x2 x3)]:ai (qi P) (fun G=>∀x0 x1 x2 x3,F x0 x1 x2 x3 G):=⟨fun⟨x0,x1,x2,x3,h⟩ G k=>(i x0 x1 x2 x3).el h G (k x0 x1 x2 x3)⟩
instance QC {α0 α1 α2 α3 α4:Type} {P: α0 -> α1 -> α2 -> α3 -> α4->Prop} {F: α0 -> α1 -> α2 -> α3 -> α4->Prop->Prop} [i:∀x0 x1 x2 x3 x4,ai (P x0 x1 x2 x3 x4) (F x0 x1 x2 x3 x4)]:ai (wb P) (fun G=>∀x0 x1 x2 x3 x4,F x0 x1 x2 x3 x4 G):=⟨fun⟨x0,x1,x2,x3,x4,h⟩ G k=>(i x0 x1 x2 x3 x4).el h G (k x0 x1 x2 x3 x4)⟩
instance QH {α0 α1 α2 α3 α4 α5:Type} {P: α0 -> α1 -> α2 -> α3 -> α4 -> α5->Prop} {F: α0 -> α1 -> α2 -> α3 -> α4 -> α5->Prop->Prop} [i:∀x0 x1 x2 x3 x4 x5,ai (P x0 x1 x2 x3 x4 x5) (F x0 x1 x2 x3 x4 x5)]:ai (Ch P) (fun G=>∀x0 x1 x2 x3 x4 x5,F x0 x1 x2 x3 x4 x5 G):=⟨fun⟨x0,x1,x2,x3,x4,x5,h⟩ G k=>(i x0 x1 x2 x3 x4 x5).el h G (k x0 x1 x2 x3 x4 x5)⟩
open PySem PySem.Spec PyProof.Rows
noncomputable abbrev Key:=Sum Int Str
noncomputable def oQ:Key->Value->Bool
 | .inl k,v=>Value.isInt k v
 | .inr x,v=>Value.isStrOf x v
noncomputable def UD (w:World):Key->Int
 | .inl k=>hashInt k
 | .inr x=>hashStr w x
theorem bQ:∀{k:Key} {v:Value},oQ k v=true->(∃i t,k=Sum.inl i/\v=Value.int i t)∨(∃x t,k=Sum.inr x/\v=Value.str x t)
 | .inl i,v,h=>by
  obtain⟨t,e⟩:=Value.isInt_shape (k:=i) (v:=v) h
  exact .inl ⟨i,t,rfl,e⟩
 | .inr x,v,h=>by
  obtain⟨t,e⟩:=Value.isStrOf_shape (x:=x) (v:=v) h
  exact .inr ⟨x,t,rfl,e⟩
theorem Av (i:Int)(t:Tok):oQ (.inl i) (.int i t)=true:=by simp[oQ,Value.isInt]
theorem BK (x:Str)(t:Tok):oQ (.inr x) (.str x t)=true:=by simp[oQ,Value.isStrOf]
theorem Lc (a b:Int):decide ((Sum.inl a:Key)=Sum.inl b)=(a==b):=by
 by_cases e:a=b
 ·subst e;simp
 ·have h:¬(Sum.inl a:Key)=Sum.inl b:=fun q=>e (Sum.inl.inj q)
  rw[decide_eq_false h]
  exact(beq_eq_false_iff_ne.mpr e).symm
theorem Lp (a b:Str):decide ((Sum.inr a:Key)=Sum.inr b)=decide (a=b):=by
 by_cases e:a=b
 ·subst e;simp
 ·have h:¬(Sum.inr a:Key)=Sum.inr b:=fun q=>e (Sum.inr.inj q)
  rw[decide_eq_false h,decide_eq_false e]
theorem LM (a:Int)(b:Str):decide ((Sum.inl a:Key)=Sum.inr b)=false:=decide_eq_false (fun q=>nomatch q)
theorem KI (a:Str)(b:Int):decide ((Sum.inr a:Key)=Sum.inl b)=false:=decide_eq_false (fun q=>nomatch q)
noncomputable def bw (prog:Program)(w:World):PySem.KeyKind prog w Key where
 is:=oQ
 hash:=UD w
 inj:=fun v a b ha hb=>by
  rcases bQ ha with ⟨i,t,rfl,rfl⟩|⟨x,t,rfl,rfl⟩
  ·rcases bQ hb with ⟨j,u,rfl,e⟩|⟨y,u,rfl,e⟩
   ·injection e with e1 _;rw[e1]
   ·exact nomatch e
  ·rcases bQ hb with ⟨j,u,rfl,e⟩|⟨y,u,rfl,e⟩
   ·exact nomatch e
   ·injection e with e1 _;rw[e1]
 byValue:=fun k v h=>by
  rcases bQ h with ⟨i,t,rfl,rfl⟩|⟨x,t,rfl,rfl⟩<;>rfl
 pyHash:=fun hv h=>by
  rcases bQ hv with ⟨i,t,rfl,rfl⟩|⟨x,t,rfl,rfl⟩
  ·exact wpAny_pyHash_int h
  ·exact wpAny_pyHash_str h
 eqBool:=fun hu hv h=>by
  rcases bQ hu with ⟨i,t,rfl,rfl⟩|⟨x,t,rfl,rfl⟩
  ·rcases bQ hv with ⟨j,u,rfl,rfl⟩|⟨y,u,rfl,rfl⟩
   ·rw[Lc] at h;exact wpAny_eqBool_int h
   ·rw[LM] at h;exact SeqAt.EqAt.int_str i t y u _ _ _ _ h
  ·rcases bQ hv with ⟨j,u,rfl,rfl⟩|⟨y,u,rfl,rfl⟩
   ·rw[KI] at h;exact SeqAt.EqAt.str_int x t j u _ _ _ _ h
   ·rw[Lp] at h;exact wpAny_eqBool_str h
 «strs»:=fun k x t v h=>by
  rcases bQ h with ⟨i,u,rfl,e⟩|⟨y,u,rfl,e⟩
  ·exact nomatch e
  ·injection e with e1 _
   subst e1
   cases v<;>rfl
theorem xb (prog:Program)(w:World)(k:Key)(v:Value):(bw prog w).is k v=oQ k v:=rfl
theorem vt (prog:Program)(w:World)(i:Int)(t:Tok):(bw prog w).is (.inl i) (.int i t)=true:=Av i t
theorem uw (prog:Program)(w:World)(x:Str)(t:Tok):(bw prog w).is (.inr x) (.str x t)=true:=BK x t
inductive V where
 | non|bl (b:Bool)|int (i:Int)|str (x:Str)|byt (b:Array UInt8)|flt (b:UInt64)|ref (a:Addr)|ty (n:String)
 deriving DecidableEq
def RelV:V->Value->Prop
 | .non,u=>u=Value.none
 | .bl b,u=>u=Value.bool b
 | .int i,u=>∃t,u=Value.int i t
 | .str x,u=>∃t,u=Value.str x t
 | .byt b,u=>∃t,u=Value.bytes b t
 | .flt b,u=>∃t,u=Value.float b t
 | .ref a,u=>u=Value.ref a
 | .ty n,u=>u=Value.type n
abbrev Vals:List V->List Value->Prop:=Paired RelV
theorem Vals.length {xs:List V}{us:List Value}(r:Vals xs us):xs.length=us.length:=Paired.length r
theorem Vals.get:∀{xs:List V} {us:List Value} {i:Nat} {x:V},Vals xs us->xs[i]? = some x->∃u,us[i]? = some u/\RelV x u
 | _,_,_,_,.nil,e=>by simp at e
 | _,_,0,_,.cons r _,e=>by simp at e;subst e;exact⟨_,rfl,r⟩
 | _,_,i+1,x,.cons _ t,e=>by
  obtain⟨u,h1,h2⟩:=Vals.get (i:=i) (x:=x) t (by simpa using e)
  exact⟨u,by simpa using h1,h2⟩
theorem Vals.set {x:V}{u:Value}(r:RelV x u):∀{xs:List V} {us:List Value} (i:Nat),Vals xs us->Vals (xs.set i x) (us.set i u)
 | _,_,_,.nil =>.nil
 | _,_,0,.cons _ t =>.cons r t
 | _,_,i+1,.cons q t =>.cons q (Vals.set r i t)
theorem Vals.append {xs ys:List V}{us ws:List Value}(h:Vals xs us)(s:Vals ys ws):Vals (xs++ys) (us++ws):=by
 induction h with
 | nil=>exact s
 | cons r t ih=>exact .cons r ih
theorem Vals.take:∀{xs:List V} {us:List Value} (n:Nat),Vals xs us->Vals (xs.take n) (us.take n)
 | _,_,0,_ =>.nil
 | _,_,_+1,.nil =>.nil
 | _,_,n+1,.cons r t =>.cons r (Vals.take n t)
theorem Vals.drop:∀{xs:List V} {us:List Value} (n:Nat),Vals xs us->Vals (xs.drop n) (us.drop n)
 | _,_,0,r=>r
 | _,_,_+1,.nil =>.nil
 | _,_,n+1,.cons _ t=>Vals.drop n t
def kf:Option V->Option Value->Prop
 | some v,some u=>RelV v u
 | none,none=>True
 | _,_=>False
def KV {κ:Type}:List (κ×V)->List (κ×Value)->Prop:=Paired fun(p: κ×V) (q: κ×Value)=>p.1=q.1/\RelV p.2 q.2
noncomputable def kV:Key->V
 | .inl i =>.int i
 | .inr x =>.str x
inductive HO where
 | lst (xs:List V)
 | tup (xs:List V)
 | dK (kvs:List (Key×V))|dT (kvs:List (List Key×V))
 | set (S:Int->Bool) (n:Nat)
 | ins (C dx:Addr) (fs:List (Str×V))
 | own (x:Addr)
 | xd (fs:List (Str×V))
 | met (f x:Addr)
 | rng (lo hi:Int)
 | frz (o:Obj) (u:HO)
 | tbl (ps:Array Value)
 | ext (φ:Heap->Prop)
noncomputable abbrev Hp:=Addr->Option HO
noncomputable def upd (H:Hp)(a:Addr)(o:HO):Hp:=fun b=>if b=a then some o else H b
theorem ay {H:Hp}{a:Addr}{o:HO}:upd H a o a=some o:=by unfold upd;rw[if_pos rfl]
theorem ak {H:Hp}{a b:Addr}{o:HO}(h:b≠a):upd H a o b=H b:=by unfold upd;rw[if_neg h]
theorem IH {H:Hp}{a b:Addr}{o u:HO}(h:H a=some o)(h':H b=some u)(d:o≠u):a≠b:=by
 intro e;subst e;rw[h] at h';exact d (Option.some.inj h')
theorem aw {H:Hp}{a b:Addr}{o:HO}(h:H a=some o)(h':H b=none):a≠b:=by
 intro e;subst e;rw[h] at h';cases h'
def sV (h:Heap)(a:Addr)(items:Array Value):Prop:=∃o,h.get? a=some o/\o.dict=none/\o.cls = .type "tuple" /\ ∃n,o.data = .seq items n
theorem sV.is {h:Heap}{a:Addr}{items:Array Value}:sV h a items->IsTup h a items:=fun⟨o,e,_,r⟩=>⟨o,e,r⟩
theorem sV.new (h:Heap)(items:Array Value):sV (h.push { cls := .type "tuple",data := .seq items }) h.objs.size items:=⟨_,Jk _ rfl,rfl,rfl,_,rfl⟩
section
variable (P:Program)(w:World)
def bz (H:Hp)(h:Heap)(a:Addr):HO->Prop
 | .lst xs=>xs.length<=sizeLine/\dS fun(au:List Value) (n:Nat)=>Vals xs au/\h.get? a=some { cls := .type "list",data := .seq au.toArray n }
 | .tup xs=>xs.length<=sizeLine/\∃au:List Value,Vals xs au/\sV h a au.toArray
 | .dK kvs=>kvs.length<=sizeLine/\(a==sysModules)=false/\∃vs,KV kvs vs/\h.DictOf (bw P w) a vs
 | .dT kvs=>kvs.length<=sizeLine/\(a==sysModules)=false/\∃xs:List (List Key×Addr×Value),
   Paired (fun(p:List Key×V) (q:List Key×Addr×Value)=>p.1=q.1/\H q.2.1=some (.tup (p.1.map kV))/\RelV p.2 q.2.2) kvs xs /\
   m7 fun o es ep=>h.get? a=some o/\o.ExactDict/\o.data = .dict es ep/\es.toList=xs.map (entryOfKey (tupleKind (bw P w)))/\(xs.map (·.1)).Nodup
 | .set S n=>h.SetOf (intKind P w) a S n
 | .ins C dx fs=>H dx=some (.own a)/\fs.length<=1000/\dx≠a/\h.get? a=some (Yw C dx) /\
   ∃mA,h.Ns1 dx mA/\(∀f,kf (fs.lookup f) (mA f))/\PySem.Within mA (fs.map (·.1))
 | .own _=>∃o,h.get? a=some o
 | .xd fs=>∃mA,h.Ns1 a mA/\∀f,kf (fs.lookup f) (mA f)
 | .rng lo hi=>m7 fun t u v=>h.get? a=some { cls := .type "range",data := .fields #[.int lo t,.int hi u,.int 1 v] }
 | .frz o u=>h.get? a=some o/\bz H h a u
 | .tbl ps=>h.get? a=some { cls := .none,data := .fields ps }
 | .met f x=>h.get? a=some (PySem.W.methodObj (.ref f) (.ref x))
 | .ext φ => φ h/\(∃o,h.get? a=some o)/\∀h1 h2:Heap, φ h1->(∀o,h1.get? a=some o->h2.get? a=some o) -> φ h2
def gV (H:Hp)(h:Heap):Prop:=∀a o,H a=some o->bz P w H h a o
end
section
variable {P:Program}{w:World}{H H':Hp}{h h':Heap}{a:Addr}{o:HO}
theorem bz.lt (x:bz P w H h a o):a<h.objs.size:=by
 cases o with
 | lst xs=>obtain⟨_,_,_,_,e⟩:=x;exact Jf e
 | tup xs=>obtain⟨_,_,_,p⟩:=x;exact p.is.lt
 | dK kvs=>obtain⟨_,_,_,_,o,_,_,e,_⟩:=x;exact Jf e
 | dT kvs=>obtain⟨_,_,_,_,o,_,_,e,_⟩:=x;exact Jf e
 | set S n=>obtain⟨o,_,_,_,e,_⟩:=x;exact Jf e
 | ins C dx fs=>obtain⟨_,_,_,e,_⟩:=x;exact Jf e
 | own y=>obtain⟨_,e⟩:=x;exact Jf e
 | xd fs=>obtain⟨_,⟨_,_,_,e,_⟩,_⟩:=x;exact Jf e
 | rng lo hi=>obtain⟨_,_,_,e⟩:=x;exact Jf e
 | frz ob u=>obtain⟨e,_⟩:=x;exact Jf e
 | tbl ps=>exact Jf (show h.get? a=some _ from x)
 | met f y=>exact Jf (show h.get? a=some _ from x)
 | ext φ=>obtain⟨_,⟨_,e⟩,_⟩:=x;exact Jf e
theorem Paired.MO {α β:Type}{F G: α -> β->Prop}{l₁:List α}{l₂:List β}(h:Paired F l₁ l₂)(f:∀a b,F a b->G a b):Paired G l₁ l₂:=by
 induction h with
 | nil=>exact .nil
 | cons r t ih=>exact .cons (f _ _ r) ih
theorem bz.fZ (x:bz P w H h a o)(k:∀b u,(b=a∨H b=some (.own a))->h.get? b=some u->h'.get? b=some u)
  (ho:∀b,H b=some (.own a)->H' b=some (.own a)) (ht:∀b xs,H b=some (.tup xs)->H' b=some (.tup xs)):bz P w H' h' a o:=by
 induction o with
 | lst xs=>obtain⟨z,au,n,r,e⟩:=x;exact⟨z,au,n,r,k _ _ (.inl rfl) e⟩
 | tup xs=>obtain⟨z,au,r,ob,e,c⟩:=x;exact⟨z,au,r,ob,k _ _ (.inl rfl) e,c⟩
 | dK kvs=>obtain⟨z,y,vs,r,ob,es,ep,e,c⟩:=x;exact⟨z,y,vs,r,ob,es,ep,k _ _ (.inl rfl) e,c⟩
 | dT kvs=>
  obtain⟨z,y,xs,r,ob,es,ep,e,c⟩:=x
  exact⟨z,y,xs,Paired.MO r fun p q z=>⟨z.1,ht _ _ z.2.1,z.2.2⟩,ob,es,ep,k _ _ (.inl rfl) e,c⟩
 | set S n=>obtain⟨ob,es,ep,t,e,c⟩:=x;exact⟨ob,es,ep,t,k _ _ (.inl rfl) e,c⟩
 | ins C dx fs=>
  obtain⟨d,z,ne,e,mA,⟨od,es,ep,e2,c⟩,r⟩:=x
  exact⟨ho _ d,z,ne,k _ _ (.inl rfl) e,mA,⟨od,es,ep,k _ _ (.inr d) e2,c⟩,r⟩
 | own y=>obtain⟨ob,e⟩:=x;exact⟨ob,k _ _ (.inl rfl) e⟩
 | xd fs=>obtain⟨mA,⟨od,es,ep,e,c⟩,r⟩:=x;exact⟨mA,⟨od,es,ep,k _ _ (.inl rfl) e,c⟩,r⟩
 | rng lo hi=>obtain⟨t,u,v,e⟩:=x;exact⟨t,u,v,k _ _ (.inl rfl) e⟩
 | frz ob u ih=>obtain⟨e,q⟩:=x;exact⟨k _ _ (.inl rfl) e,ih q⟩
 | tbl ps=>
  have e:h.get? a=some { cls := .none,data := .fields ps }:=x
  show h'.get? a=some { cls := .none,data := .fields ps }
  exact k a _ (.inl rfl) e
 | met f y=>
  have e:h.get? a=some (PySem.W.methodObj (.ref f) (.ref y)):=x
  show h'.get? a=some (PySem.W.methodObj (.ref f) (.ref y))
  exact k a _ (.inl rfl) e
 | ext φ=>obtain⟨p,⟨o,e⟩,st⟩:=x;exact⟨st _ _ p fun o q=>k _ _ (.inl rfl) q,⟨o,k _ _ (.inl rfl) e⟩,st⟩
theorem gV.lt (x:gV P w H h)(e:H a=some o):a<h.objs.size:=(x a o e).lt
theorem gV.fresh (x:gV P w H h)(e:h.objs.size<=a):H a=none:=by
 cases q:H a with
 | none=>rfl
 | some u=>exact absurd (Jq (x.lt q) e) (J7 _)
theorem gV.kept (x:gV P w H h)(k:∀b u,h.get? b=some u->h'.get? b=some u):gV P w H h':=fun a o e=>
 (x a o e).fZ (fun b u _ q=>k b u q) (fun _ q=>q) fun _ _ q=>q
theorem gV.laid (x:gV P w H h)(k:∀b u,h.get? b=some u->h'.get? b=some u)(hp:h.objs.size<=a)(new:bz P w (upd H a o) h' a o):gV P w (upd H a o) h':=fun b u e=>by
 have hn:=x.fresh hp
 by_cases hb:b=a
 ·subst hb;rw[ay] at e;cases e;exact new
 ·rw[ak hb] at e
  exact(x b u e).fZ (fun c v _ q=>k c v q) (fun c q=>by rw[ak (aw q hn)];exact q) fun c xs q=>by rw[ak (aw q hn)];exact q
end
def Rd (H:Hp)(a:Addr)(u:HO):Prop:=H a=some u∨∃o,H a=some (.frz o u)
theorem Rd.ok {P:Program}{w:World}{H:Hp}{h:Heap}{a:Addr}{u:HO}(r:Rd H a u)(x:gV P w H h):bz P w H h a u:=by
 rcases r with r|⟨o,r⟩
 ·exact x a u r
 ·obtain⟨_,q⟩:=x a _ r
  exact q
def M3:Option HO->Prop
 | some (.lst _)=>True
 | some (.dK _)=>True
 | some (.dT _)=>True
 | some (.set _ _)=>True
 | some (.ins _ _ _)=>True
 | some (.ext _)=>True
 | _=>False
section
variable {P:Program}{w:World}{H:Hp}{h h':Heap}{x e:Addr}{o':HO}
theorem gV.write (ok:gV P w H h)(mu:M3 (H x))(he:e=x∨H e=some (.own x))(k:∀b u,b≠e->h.get? b=some u->h'.get? b=some u)(Mu:∃u,h'.get? e=some u)
  (new:bz P w (upd H x o') h' x o'):gV P w (upd H x o') h':=fun b u q=>by
 have M0:∀c y,H c=some (.own y)->c≠x:=fun c y r z=>by subst z;rw[r] at mu;exact mu
 have TF:∀c xs,H c=some (.tup xs)->c≠x:=fun c xs r z=>by subst z;rw[r] at mu;exact mu
 by_cases hb:b=x
 ·subst hb;rw[ay] at q;cases q;exact new
 ·rw[ak hb] at q
  by_cases hbe:b=e
  ·have q':H b=some (.own x):=by
    rcases he with z|z
    ·exact absurd (hbe.trans z) hb
    ·rw[hbe];exact z
   rw[q] at q';cases q'
   obtain⟨v,hv⟩:=Mu
   exact⟨v,by rw[hbe];exact hv⟩
  ·refine(ok b u q).fZ (fun c v hc r=>k c v ?_ r) (fun c r=>by rw[ak (M0 c b r)];exact r) fun c xs r=>by rw[ak (TF c xs r)];exact r
   rcases hc with rfl|hc
   ·exact hbe
   ·rintro rfl
    rcases he with z|z
    ·exact M0 c b hc z
    ·rw[hc] at z;cases z;exact hb rfl
end
structure Un (fs ex:List Addr)(H H':Hp)(h h':Heap):Prop where
 keep:∀b o,h.get? b=some o->H b=none->b∉fs->b∉ex->h'.get? b=some o
 slot:∀b o,h.get? b=some o->H b=none->b∈fs->b∉ex->∃sl,h'.get? b=some { o with slots:=sl }
 free:∀b o,h.get? b=some o->H b=none->b∉ex->H' b=none
 there:∀b o,h.get? b=some o->b∉ex->∃o',h'.get? b=some o'
 jw:∀b xs,H b=some (.tup xs)->H' b=some (.tup xs)
 jh:∀b o u,H b=some (.frz o u)->H' b=some (.frz o u)
 j3:∀b ps,H b=some (.tbl ps)->∃more,H' b=some (.tbl (ps++more))
section
variable {fs Qc ex Z3:List Addr}{H H1 H2:Hp}{h h1 h2 h':Heap}{a x e:Addr}{o:HO}
theorem Un.any (u:Un fs ex H H1 h h1){b:Addr}{ob:Obj}(q:h.get? b=some ob)(n:H b=none)(hx:b∉ex):∃sl,h1.get? b=some { ob with slots:=sl }:=by
 by_cases hb:b∈fs
 ·exact u.slot b ob q n hb hx
 ·exact⟨ob.slots,u.keep b ob q n hb hx⟩
theorem Un.kept (k:∀b u,h.get? b=some u->h'.get? b=some u):Un fs ex H H h h':=
 ⟨fun b ob q _ _ _=>k b ob q,fun b ob q _ _ _=>⟨ob.slots,k b ob q⟩,fun _ _ _ n _=>n,fun b ob q _=>⟨ob,k b ob q⟩,fun _ _ q=>q,fun _ _ _ q=>q,fun _ ps q=>⟨#[],by rw[q];simp⟩⟩
theorem Un.refl:Un fs ex H H h h:=Un.kept fun _ _ q=>q
theorem Un.laid (k:∀b u,h.get? b=some u->h'.get? b=some u)(hp:h.objs.size<=a)(hn:H a=none):Un fs ex H (upd H a o) h h' where
 keep:=fun b u q _ _ _=>k b u q
 slot:=fun b u q _ _ _=>⟨u.slots,k b u q⟩
 free:=fun b u q n _=>by rw[ak (Jm (Jq (Jf q) hp))];exact n
 there:=fun b u q _=>⟨u,k b u q⟩
 jw:=fun b xs q=>by rw[ak (aw q hn)];exact q
 jh:=fun b u xs q=>by rw[ak (aw q hn)];exact q
 j3:=fun b ps q=>⟨#[],by rw[ak (aw q hn),q];simp⟩
theorem Un.write (mu:M3 (H x))(he:e=x∨H e=some (.own x))(k:∀b u,b≠e->h.get? b=some u->h'.get? b=some u)(Mu:∃u,h'.get? e=some u):Un fs ex H (upd H x o) h h':=by
 have hx:∀b,H b=none->b≠x:=fun b n z=>by subst z;rw[n] at mu;exact mu
 have hb:∀b,H b=none->b≠e:=fun b n z=>by
  subst z
  rcases he with r|r
  ·exact hx b n r
  ·rw[n] at r;cases r
 have hm:∀b u,H b=some u->¬M3 (some u)->b≠x:=fun b u q nm z=>by subst z;rw[q] at mu;exact nm mu
 refine⟨fun b u q n _ _=>k b u (hb b n) q,fun b u q n _ _=>⟨u.slots,k b u (hb b n) q⟩,fun b u q n _=>by rw[ak (hx b n)];exact n,fun b u q _ =>?_,
  fun b xs q=>by rw[ak (hm b _ q fun z=>z)];exact q,fun b u xs q=>by rw[ak (hm b _ q fun z=>z)];exact q,fun b ps q=>⟨#[],by rw[ak (hm b _ q fun z=>z),q];simp⟩⟩
 by_cases hbe:b=e
 ·subst hbe;exact Mu
 ·exact⟨u,k b u hbe q⟩
end
noncomputable def QS (h:Heap)(H:Hp):List Addr:=(Uy h.objs.size).filter fun a=>(H a).isSome
noncomputable def tI (h:Heap)(H:Hp):Heap:=PySem.W.hideAll h (QS h H)
theorem zY (h:Heap)(H:Hp):(tI h H).objs.size=h.objs.size:=PySem.W.hideAll_size _ _
theorem Cz {h:Heap}{H:Hp}{b:Addr}{o:Obj}(e:h.get? b=some o)(n:H b=none):(tI h H).get? b=some o:=
 PySem.W.hideAll_get _ e fun hm=>by
  have q:(H b).isSome=true:=(List.mem_filter.mp hm).2
  rw[n] at q;simp at q
theorem Gi {h:Heap}{H:Hp}{b:Addr}{o:Obj}(e:(tI h H).get? b=some o):h.get? b=some o/\H b=none:=by
 have e':h.get? b=some o:=PySem.W.of_hideAll (QS h H) e
 refine⟨e',?_⟩
 cases q:H b with
 | none=>rfl
 | some x=>
  have hm:b∈QS h H:=List.mem_filter.mpr ⟨List.mem_range.mpr (Jf e'),by simp[q]⟩
  have z:(tI h H).get? b=none:=PySem.W.hideAll_none (QS h H) hm
  rw[z] at e;cases e
structure Mod (K:Ja)(mg:Str->Option Value)(base:Heap):Prop where
 zu:K.In base
 glob:base.Ns mainGlobals mg
 blt:∃mb,base.Ns builtinsNs mb/\∀x:Str,x ≠ "__name__" -> mb x=bootBuiltins x
 nolimit:base.NoLimit
structure Cx where
 prog:Program
 w:World
 K:Ja
 mg:Str->Option Value
 base:Heap
 A:Around
 N:List Str
 s₀:Shared
 H₀:Hp
 env:Env
 outer:List Env
 stack:List Env
 ex:List Addr
 fn:Str->Bool
 calm:Bool
 pn:List (Addr×Obj)
 xe:Value->Shared->Prop
noncomputable def gm (l:List Env):List Addr:=l.filterMap (·.frame)
noncomputable abbrev Cx.fs (X:Cx):List Addr:=gm X.outer
def Mi (sc:Scope)(x:Str):Prop:=sc.names.lookup x=some .local∨sc.names.lookup x=some .cell∨sc.names.lookup x=some .free
def Loc (sc:Scope)(x:Str):Prop:=sc.names.lookup x=some .local∨sc.names.lookup x=some .cell
def Look (env:Env)(h:Heap)(m:Str->Option Value)(x:Str)(u:Value):Prop:=
 (env.kindOf x=some .local/\m x=some u)∨((env.kindOf x=some .cell∨env.kindOf x=some .free)/\∃c,env.cells.lookup x=some c/\h.IsCell c (some u))
structure Cx.Ok (X:Cx):Prop where
 mod:Mod X.K X.mg X.base
 kind:X.env.scope.kind = .function
 glob:X.env.globals=mainGlobals
 blt:X.env.builtins=builtinsNs
 above:X.s₀.heap.objs.size<=X.env.locals
 inj:∀x y c,X.env.cells.lookup x=some c->X.env.cells.lookup y=some c->x=y
 has:∀x,(X.env.kindOf x=some .cell∨X.env.kindOf x=some .free)->∃c,X.env.cells.lookup x=some c
 cab:∀x c,X.fn x=true->X.env.cells.lookup x=some c->X.s₀.heap.objs.size<=c
 hd:X.calm=true->X.A.handled=none
 frames:X.A.frames=some X.stack
 stk:X.stack=X.outer∨(X.stack=X.env::X.outer/\X.env.frame=some X.env.locals)
 exf:∀b∈X.ex,b≠X.env.locals/\∀x c,X.env.cells.lookup x=some c->c≠b
 bs:∀b o,X.base.get? b=some o->X.s₀.heap.get? b=some o/\X.H₀ b=none
 bsz:X.base.objs.size<=X.s₀.heap.objs.size
 noex:∀b o,X.base.get? b=some o->b∉X.ex
 exfs:∀b∈X.ex,b∉X.fs
 kZ:X.s₀.heap.FunFrames X.base X.outer
 frf:∀b∈X.fs,X.H₀ b=none
structure Inv (X:Cx)(pins:List (Addr×Obj))(σ:List (Option V))(H:Hp)(s:Shared):Prop where
 ok:X.Ok
 os:s.os=X.s₀.os
 bare:AllBare s.gens
 base:Un X.fs X.ex X.H₀ H X.s₀.heap s.heap
 loc:∃m,s.heap.Ns X.env.locals m/\∀(i:Nat) (x:Str) (v:V),X.N[i]? = some x -> σ[i]? = some (some v)->Mi X.env.scope x->∃u,RelV v u/\Look X.env s.heap m x u
 cell:∀x c,X.env.cells.lookup x=some c->∃v,s.heap.IsCell c v
 free:H X.env.locals=none
 freeC:∀x c,X.env.cells.lookup x=some c->H c=none
 pin:∀p∈X.pn++pins,s.heap.get? p.1=some p.2/\H p.1=none/\p.1≠X.env.locals/\p.1∉X.fs/\∀v,p.2.data ≠ .cell v
 bC:gV X.prog X.w H s.heap
 len: σ.length=X.N.length
section
variable {X:Cx}{pins:List (Addr×Obj)}{σ:List (Option V)}{H H':Hp}{s:Shared}{h':Heap}
theorem Cx.Ok.Q5 (ok:X.Ok){b:Addr}{o:Obj}(e:X.base.get? b=some o):b∉X.fs:=fun hb=>by
 have:=(ok.kZ.mem hb).1
 rw[e] at this;cases this
theorem Inv.bs (I:Inv X pins σ H s):∀b o,X.base.get? b=some o->s.heap.get? b=some o/\H b=none:=fun b o e=>
 ⟨I.base.keep b o (I.ok.bs b o e).1 (I.ok.bs b o e).2 (I.ok.Q5 e) (I.ok.noex b o e),I.base.free b o (I.ok.bs b o e).1 (I.ok.bs b o e).2 (I.ok.noex b o e)⟩
theorem Inv.bk (I:Inv X pins σ H s):∀b o,X.base.get? b=some o->s.heap.get? b=some o:=fun b o e=>(I.bs b o e).1
theorem Inv.mod (I:Inv X pins σ H s):Mod X.K X.mg X.base:=I.ok.mod
theorem Inv.je (I:Inv X pins σ H s):X.K.In s.heap:=I.ok.mod.zu.keeps I.bk
theorem Inv.lt (I:Inv X pins σ H s):X.env.locals<s.heap.objs.size:=let ⟨_,hn,_⟩:=I.loc;hn.lt
theorem Inv.sz (I:Inv X pins σ H s):X.s₀.heap.objs.size<=s.heap.objs.size:=Jh I.ok.above (U8 I.lt)
theorem Inv.N5 (I:Inv X pins σ H s){a:Addr}(h:s.heap.objs.size<=a):a∉X.fs:=fun hb=>by
 obtain⟨_,o,ho,_⟩:=I.ok.kZ.mem hb
 exact absurd (Jq (Jf ho) (Jh I.sz h)) (J7 _)
theorem Inv.K5 (I:Inv X pins σ H s):∀x c,X.env.cells.lookup x=some c->c≠X.env.locals:=fun x c e z=>by
 obtain⟨v,o,ho,hd⟩:=I.cell x c e
 obtain⟨m,⟨o',es,ep,yI,C2,_⟩,_⟩:=I.loc
 rw[z,yI] at ho;cases ho;rw[C2] at hd;cases hd
theorem Inv.kZ (I:Inv X pins σ H s):s.heap.FunFrames X.base X.outer:=by
 have all:∀(l:List Env),(∀b∈gm l,b∈X.fs)->X.s₀.heap.FunFrames X.base l->s.heap.FunFrames X.base l:=by
  intro l
  induction l with
  | nil=>intro _ _;trivial
  | cons env r ih=>
   intro hs hl
   obtain⟨hk,⟨L,o,hf,hn,ho,hd⟩,hr⟩:=hl
   have hL:L∈X.fs:=hs L (by unfold gm;rw[U6,hf];exact Jr)
   obtain⟨sl,e⟩:=I.base.slot L o ho (I.ok.frf L hL) hL fun z=>I.ok.exfs L z hL
   exact⟨hk,⟨L,_,hf,hn,e,hd⟩,ih (fun b hb=>hs b (by unfold gm;rw[U6,hf];exact Jo _ hb)) hr⟩
 exact all X.outer (fun _ hb=>hb) I.ok.kZ
theorem Inv.stack (I:Inv X pins σ H s):s.heap.FunFrames X.base X.stack:=by
 rcases I.ok.stk with e|⟨e,hf⟩
 ·rw[e];exact I.kZ
 ·rw[e]
  obtain⟨m,hn,_⟩:=I.loc
  refine .cons (by rw[I.ok.kind];decide) hf hn ?_ I.kZ
  exact Heap.get?_none_of_le (Jh I.ok.bsz I.ok.above)
theorem Inv.rQ (I:Inv X pins σ H s):∀b∈gm X.stack,b∈X.env.locals::X.fs:=fun b hb=>by
 rcases I.ok.stk with e|⟨e,hf⟩
 ·rw[e] at hb;exact Jo _ hb
 ·rw[e] at hb
  unfold gm at hb
  rw[U6,hf] at hb
  exact hb
theorem Inv.tK (I:Inv X pins σ H s):∀b∈gm X.stack,H b=none:=fun b hb=>by
 rcases Jv.mp (I.rQ b hb) with e|hb
 ·rw[e];exact I.free
 ·obtain⟨_,o,ho,_⟩:=I.ok.kZ.mem hb
  exact I.base.free b o ho (I.ok.frf b hb) fun z=>I.ok.exfs b z hb
theorem Inv.step {g':Array GenState}{t':Nat}{d':Drawn}{ch:List Addr}(I:Inv X pins σ H s)
  (wc:∀b∈ch,(b∈X.ex∨X.s₀.heap.objs.size<=b)/\b≠X.env.locals/\(∀x c,X.env.cells.lookup x=some c->c≠b)/\∀p∈X.pn++pins,p.1≠b)
  (keep:∀b o,b≠X.env.locals->b∉X.fs->b∉ch->s.heap.get? b=some o->H b=none->h'.get? b=some o)
  (slot:∀b o,b≠X.env.locals->b∈X.fs->b∉ch->s.heap.get? b=some o->H b=none->∃sl,h'.get? b=some { o with slots:=sl }) (free:∀b o,b∉ch->s.heap.get? b=some o->H b=none->H' b=none)
  (there:∀b o,b∉ch->s.heap.get? b=some o->∃o',h'.get? b=some o')
  (jw:∀b xs,H b=some (.tup xs)->H' b=some (.tup xs)) (jh:∀b o u,H b=some (.frz o u)->H' b=some (.frz o u)) (j3:∀b ps,H b=some (.tbl ps)->∃more,H' b=some (.tbl (ps++more)))
  (ns:∀m,s.heap.Ns X.env.locals m->h'.Ns X.env.locals m) (bC:gV X.prog X.w H' h') (hg:AllBare g') :
  Inv X pins σ H' { s with heap:=h',gens:=g',drawn:=d',toks:=t' }:=by
 have VA:∀b o,X.s₀.heap.get? b=some o->b≠X.env.locals:=fun b o e=>Jm (Jq (Jf e) I.ok.above)
 have P2:∀b o,X.s₀.heap.get? b=some o->b∉X.ex->b∉ch:=fun b o e hx hb=>by
  rcases(wc b hb).1 with z|z
  ·exact hx z
  ·exact absurd (Jq (Jf e) z) (J7 _)
 have cellK:∀x c,X.env.cells.lookup x=some c->∀v,s.heap.IsCell c v->h'.IsCell c v:=fun x c e v ⟨o,ho,hd⟩=>by
  have Iw:c∉ch:=fun z=>(wc c z).2.2.1 x c e rfl
  by_cases hc:c∈X.fs
  ·obtain⟨sl,q⟩:=slot c o (I.K5 x c e) hc Iw ho (I.freeC x c e)
   exact⟨_,q,hd⟩
  ·exact⟨o,keep c o (I.K5 x c e) hc Iw ho (I.freeC x c e),hd⟩
 refine⟨I.ok,I.os,hg,⟨fun b o e n hb hx =>?_,fun b o e n hb hx =>?_,fun b o e n hx =>?_,fun b o e hx =>?_,fun b xs e=>jw b xs (I.base.jw b xs e),fun b o xs e=>jh b o xs (I.base.jh b o xs e),fun b ps e =>?_⟩,?_,fun x c e =>?_,?_,fun x c e =>?_,fun p hp =>?_,bC,I.len⟩
 ·exact keep b o (VA b o e) hb (P2 b o e hx) (I.base.keep b o e n hb hx) (I.base.free b o e n hx)
 ·obtain⟨sl,e1⟩:=I.base.slot b o e n hb hx
  obtain⟨sl',e2⟩:=slot b _ (VA b o e) hb (P2 b o e hx) e1 (I.base.free b o e n hx)
  exact⟨sl',e2⟩
 ·obtain⟨o',e1⟩:=I.base.there b o e hx
  exact free b o' (P2 b o e hx) e1 (I.base.free b o e n hx)
 ·obtain⟨o',e1⟩:=I.base.there b o e hx
  exact there b o' (P2 b o e hx) e1
 ·obtain⟨m1,e1⟩:=I.base.j3 b ps e
  obtain⟨m2,e2⟩:=j3 b _ e1
  exact⟨m1++m2,by rw[e2,Array.append_assoc]⟩
 ·obtain⟨m,hn,hl⟩:=I.loc
  refine⟨m,ns m hn,fun i x v e1 e2 e3 =>?_⟩
  obtain⟨u,r,l⟩:=hl i x v e1 e2 e3
  refine⟨u,r,?_⟩
  rcases l with l|⟨k,c,e,z⟩
  ·exact .inl l
  ·exact .inr ⟨k,c,e,cellK x c e _ z⟩
 ·obtain⟨v,z⟩:=I.cell x c e
  exact⟨v,cellK x c e v z⟩
 ·obtain⟨m,⟨o,_,_,ho,_⟩,_⟩:=I.loc
  exact free _ o (fun z=>(wc _ z).2.1 rfl) ho I.free
 ·obtain⟨v,o,ho,hd⟩:=I.cell x c e
  exact free c o (fun z=>(wc c z).2.2.1 x c e rfl) ho (I.freeC x c e)
 ·obtain⟨e,n,ne,nf,d⟩:=I.pin p hp
  have Iw:p.1∉ch:=fun z=>(wc p.1 z).2.2.2 p hp rfl
  exact⟨keep p.1 p.2 ne nf Iw e n,free p.1 p.2 Iw e n,ne,nf,d⟩
theorem Inv.un {t':Nat}(I:Inv X pins σ H s)(u:Un X.fs [] H H' s.heap h')(bC:gV X.prog X.w H' h'):Inv X pins σ H' { s with heap:=h',toks:=t' }:=by
 obtain⟨m,⟨o,es,ep,ho,r⟩,_⟩:=id I.loc
 obtain⟨sl,hL⟩:=u.any ho I.free (by simp)
 exact I.step (g':=s.gens) (d':=s.drawn) (ch:=[]) (fun _ z=>nomatch z) (fun b o _ hb _ e n=>u.keep b o e n hb (by simp)) (fun b o _ hb _ e n=>u.slot b o e n hb (by simp)) (fun b o _ e n=>u.free b o e n (by simp)) (fun b o _ e=>u.there b o e (by simp)) u.jw u.jh u.j3 (fun m' hm=>by
  obtain⟨o',es',ep',yI,r'⟩:=hm
  rw[ho] at yI;cases yI
  exact⟨_,es',ep',hL,r'⟩) bC I.bare
theorem Inv.call {g':Array GenState}{t':Nat}{d':Drawn}{ch:List Addr}(I:Inv X pins σ H s)(u:Un (gm X.stack) ch H H' s.heap h')(bC:gV X.prog X.w H' h')(hg:AllBare g')
  (wc:∀b∈ch,(b∈X.ex∨X.s₀.heap.objs.size<=b)/\b≠X.env.locals/\(∀x c,X.env.cells.lookup x=some c->c≠b)/\∀p∈X.pn++pins,p.1≠b) :
  Inv X pins σ H' { s with heap:=h',gens:=g',drawn:=d',toks:=t' }:=by
 obtain⟨m,⟨o,es,ep,ho,r⟩,_⟩:=id I.loc
 obtain⟨sl,hL⟩:=u.any ho I.free fun z=>(wc _ z).2.1 rfl
 exact I.step (ch:=ch) wc (fun b o hL hb hc e n=>u.keep b o e n (fun z=>(Jv.mp (I.rQ b z)).elim hL hb) hc) (fun b o _ _ hc e n=>u.any e n hc) (fun b o hc e n=>u.free b o e n hc) (fun b o hc e=>u.there b o e hc) u.jw u.jh u.j3 (fun m' hm=>by
  obtain⟨o',es',ep',yI,r'⟩:=hm
  rw[ho] at yI;cases yI
  exact⟨_,es',ep',hL,r'⟩) bC hg
theorem Inv.turned {t':Nat}{it:Addr}(I:Inv X pins σ H s)(k:∀b o,b≠it->s.heap.get? b=some o->h'.get? b=some o)(hn:H it=none)(hL:it≠X.env.locals)
  (h1:it∈X.ex∨X.s₀.heap.objs.size<=it) (h2:∀x c,X.env.cells.lookup x=some c->c≠it) (h3:∀p∈X.pn++pins,p.1≠it):Inv X pins σ H { s with heap:=h',toks:=t' }:=by
 have Wj:∀b u,H b=some u->b≠it:=fun b u e z=>by rw[z,hn] at e;cases e
 refine I.step (g':=s.gens) (d':=s.drawn) (ch:=[it]) (fun b hb =>?_) (fun b o _ _ hc e _=>k b o (fun z=>hc (by simp[z])) e) (fun b o _ _ hc e _=>⟨o.slots,k b o (fun z=>hc (by simp[z])) e⟩) (fun _ _ _ _ n=>n)
  (fun b o hc e=>⟨o,k b o (fun z=>hc (by simp[z])) e⟩) (fun _ _ e=>e) (fun _ _ _ e=>e) (fun b ps e=>⟨#[],by rw[e];simp⟩) (fun m hm =>?_) (fun b u e =>?_) I.bare
 ·have e:b=it:=by simpa using hb
  subst e
  exact⟨h1,hL,h2,h3⟩
 ·obtain⟨o,es,ep,ho,r⟩:=hm
  exact⟨o,es,ep,k _ o (Ne.symm hL) ho,r⟩
 ·refine(I.bC b u e).fZ (fun c v hc q=>k c v ?_ q) (fun _ q=>q) fun _ _ q=>q
  rcases hc with z|z
  ·rw[z];exact Wj b u e
  ·exact Wj c _ z
theorem Inv.tok (I:Inv X pins σ H s)(t:Nat):Inv X pins σ H { s with toks:=t }:=I.un (h':=s.heap) (t':=t) Un.refl I.bC
theorem Inv.kept {t':Nat}(I:Inv X pins σ H s)(k:∀b u,s.heap.get? b=some u->h'.get? b=some u):Inv X pins σ H { s with heap:=h',toks:=t' }:=I.un (Un.kept k) (I.bC.kept k)
theorem Inv.laid {a:Addr}{o:HO}{t':Nat}(I:Inv X pins σ H s)(k:∀b u,s.heap.get? b=some u->h'.get? b=some u)(hp:s.heap.objs.size<=a)(new:bz X.prog X.w (upd H a o) h' a o):
  Inv X pins σ (upd H a o) { s with heap:=h',toks:=t' }:=I.un (Un.laid k hp (I.bC.fresh hp)) (I.bC.laid k hp new)
theorem Inv.write {x e:Addr}{o:HO}{t':Nat}(I:Inv X pins σ H s)(mu:M3 (H x))(he:e=x∨H e=some (.own x))(k:∀b u,b≠e->s.heap.get? b=some u->h'.get? b=some u)(Mu:∃u,h'.get? e=some u)
  (new:bz X.prog X.w (upd H x o) h' x o):Inv X pins σ (upd H x o) { s with heap:=h',toks:=t' }:=I.un (Un.write mu he k Mu) (I.bC.write mu he k Mu new)
theorem Inv.weak {σ':List (Option V)}(I:Inv X pins σ H s)(hl: σ'.length = σ.length)(w:∀(i:Nat) v,σ'[i]? = some (some v) -> σ[i]? = some (some v)):Inv X pins σ' H s:=
 ⟨I.ok,I.os,I.bare,I.base,let ⟨m,hn,GD⟩:=I.loc; ⟨m,hn,fun i x v e1 e2 e3=>GD i x v e1 (w i v e2) e3⟩,I.cell,I.free,I.freeC,I.pin,I.bC,hl.trans I.len⟩
theorem Inv.mI {Il:List (Addr×Obj)}(I:Inv X pins σ H s)(h:∀p∈Il,s.heap.get? p.1=some p.2/\H p.1=none/\p.1≠X.env.locals/\p.1∉X.fs/\∀v,p.2.data ≠ .cell v):Inv X Il σ H s:=
 ⟨I.ok,I.os,I.bare,I.base,I.loc,I.cell,I.free,I.freeC,fun p hp=>(Ug.mp hp).elim (fun z=>I.pin p (Yq _ z)) (h p),I.bC,I.len⟩
theorem tX {N:List Str}(hN:N.Nodup){i j:Nat}{x:Str}(a:N[i]? = some x)(b:N[j]? = some x):i=j:=by
 obtain⟨h1,e1⟩:=Jt.mp a
 obtain⟨h2,e2⟩:=Jt.mp b
 exact(List.getElem_inj hN).mp (e1.trans e2.symm)
theorem lH {M:Model}{A:Around}{E:Value->Shared->Prop}{i:Nat}{x:Str}{v:V}{u:Value}{Q:Unit->Shared->Prop}(I:Inv X pins σ H s)(hN:X.N.Nodup)(hi:X.N[i]? = some x)(hx:Loc X.env.scope x)(r:RelV v u)
  (h:∀s',Inv X pins (σ.set i (some v)) H s'->(∃a,Uz a s.heap s'.heap/\(a=X.env.locals∨X.env.cells.lookup x=some a))->Q () s') (hf:X.fn x=true∨X.env.scope.names.lookup x=some .local:=by first|exact .inl rfl|exact .inr rfl|assumption):wpAny M A (storeName X.env x u) Q E s:=by
 obtain⟨m,hn,hl⟩:=id I.loc
 have Tx:(X.env.scope.kind == .class||(X.env.scope.kind == .module&&X.env.locals != X.env.globals))=false:=by rw[I.ok.kind];rfl
 have VT:i < σ.length:=by rw[I.len];exact(Jt.mp hi).1
 have K5:=I.K5
 have tracked:∀{a:Addr} {h':Heap},(∃o,s.heap.get? a=some o/\H a=none)->Uz a s.heap h'->gV X.prog X.w H h':=fun{a h'} ha hs b ob e=>by
  obtain⟨_,_,y9⟩:=ha
  refine(I.bC b ob e).fZ (fun c w' hc q=>(hs.2 c ?_).trans q) (fun _ q=>q) fun _ _ q=>q
  rintro rfl
  rcases hc with rfl|hc
  ·rw[y9] at e;cases e
  ·rw[y9] at hc;cases hc
 rcases hx with hk|hk
 ·refine wpAny_storeName_local hk hn (fun h' hn' hs =>?_) Tx
  obtain⟨oL,_,_,hoL,_⟩:=id hn
  refine h _ ⟨I.ok,I.os,I.bare,⟨fun b o e n hb hx =>?_,fun b o e n hb hx =>?_,I.base.free,fun b o e hx =>?_,I.base.jw,I.base.jh,I.base.j3⟩,⟨_,hn',fun j y v' e1 e2 e3 =>?_⟩,fun y c e =>?_,I.free,I.freeC,fun p hp =>?_,tracked ⟨oL,hoL,I.free⟩ hs,by simpa using I.len⟩ ⟨_,hs,.inl rfl⟩
  ·exact(hs.2 b (Jm (Jq (Jf e) I.ok.above))).trans (I.base.keep b o e n hb hx)
  ·obtain⟨sl,e1⟩:=I.base.slot b o e n hb hx
   exact⟨sl,(hs.2 b (Jm (Jq (Jf e) I.ok.above))).trans e1⟩
  ·obtain⟨o',e1⟩:=I.base.there b o e hx
   exact⟨o',(hs.2 b (Jm (Jq (Jf e) I.ok.above))).trans e1⟩
  ·by_cases hj:j=i
   ·subst hj
    rw[hi] at e1;cases e1
    rw[Yg VT] at e2
    cases e2
    exact⟨u,r,.inl ⟨hk,by simp⟩⟩
   ·rw[Yb (Ne.symm hj)] at e2
    obtain⟨u',r',q⟩:=hl j y v' e1 e2 e3
    refine⟨u',r',?_⟩
    rcases q with ⟨k,e⟩|⟨k,c,e,z⟩
    ·refine .inl ⟨k,?_⟩
     have:y≠x:=fun e=>hj (tX hN e1 (e▸hi))
     simp[this,e]
    ·exact .inr ⟨k,c,e,z.sameBut hs (K5 y c e)⟩
  ·obtain⟨w',z⟩:=I.cell y c e
   exact⟨w',z.sameBut hs (K5 y c e)⟩
  ·obtain⟨e,n,ne,nf,d⟩:=I.pin p hp
   exact⟨(hs.2 p.1 ne).trans e,n,ne,nf,d⟩
 ·have Q7:X.fn x=true:=by
   rcases hf with z|z
   ·exact z
   ·rw[z] at hk;cases hk
  obtain⟨c,hc⟩:=I.ok.has x (.inl hk)
  obtain⟨w',z⟩:=I.cell x c hc
  refine wpAny_storeName_cell I.ok.kind hk hc z (fun h' hc' hs =>?_)
  obtain⟨oc,hoc,hocd⟩:=id z
  refine h { s with heap:=h' } ⟨I.ok,I.os,I.bare,⟨fun b o e n hb hx =>?_,fun b o e n hb hx =>?_,I.base.free,fun b o e hx =>?_,I.base.jw,I.base.jh,I.base.j3⟩,⟨m,hn.sameBut hs (Ne.symm (K5 x c hc)),fun j y v' e1 e2 e3 =>?_⟩,fun y c' e =>?_,I.free,I.freeC,fun p hp =>?_,tracked ⟨oc,hoc,I.freeC x c hc⟩ hs,by simpa using I.len⟩ ⟨c,hs,.inr hc⟩
  ·exact(hs.2 b (Jm (Jq (Jf e) (I.ok.cab x c Q7 hc)))).trans (I.base.keep b o e n hb hx)
  ·obtain⟨sl,e1⟩:=I.base.slot b o e n hb hx
   exact⟨sl,(hs.2 b (Jm (Jq (Jf e) (I.ok.cab x c Q7 hc)))).trans e1⟩
  ·obtain⟨o',e1⟩:=I.base.there b o e hx
   exact⟨o',(hs.2 b (Jm (Jq (Jf e) (I.ok.cab x c Q7 hc)))).trans e1⟩
  ·by_cases hj:j=i
   ·subst hj
    rw[hi] at e1;cases e1
    rw[Yg VT] at e2
    cases e2
    exact⟨u,r,.inr ⟨.inl hk,c,hc,hc'⟩⟩
   ·rw[Yb (Ne.symm hj)] at e2
    obtain⟨u',r',q⟩:=hl j y v' e1 e2 e3
    refine⟨u',r',?_⟩
    rcases q with q|⟨k,c',e,z'⟩
    ·exact .inl q
    ·refine .inr ⟨k,c',e,z'.sameBut hs ?_⟩
     rintro rfl
     exact hj (tX hN e1 (I.ok.inj _ _ _ e hc▸hi))
  ·by_cases hcc:c'=c
   ·subst hcc;exact⟨_,hc'⟩
   ·obtain⟨w2,z2⟩:=I.cell y c' e
    exact⟨w2,z2.sameBut hs hcc⟩
  ·obtain⟨e,n,ne,nf,d⟩:=I.pin p hp
   refine⟨(hs.2 p.1 ?_).trans e,n,ne,nf,d⟩
   intro q
   rw[q,hoc] at e
   have q':oc=p.2:=Option.some.inj e
   exact d w' (by rw[<-q'];exact hocd)
theorem iw {M:Model}{A:Around}{E:Value->Shared->Prop}{i:Nat}{x:Str}{v:V}{u:Value}{Q:Unit->Shared->Prop}(I:Inv X pins σ H s)(hN:X.N.Nodup)(hi:X.N[i]? = some x)(hx:Loc X.env.scope x)(r:RelV v u)
  (h:∀s',Inv X pins (σ.set i (some v)) H s'->Q () s') (hf:X.fn x=true∨X.env.scope.names.lookup x=some .local:=by first|exact .inl rfl|exact .inr rfl|assumption):wpAny M A (storeName X.env x u) Q E s:=
 lH I hN hi hx r (fun s' I' _=>h s' I') hf
theorem Inv.De {s':Shared}{ch:List Addr}(I:Inv X pins σ H s)(ho:s'.os=s.os)(u:Un (gm X.stack) ch H H' s.heap s'.heap)(bC:gV X.prog X.w H' s'.heap)(hg:AllBare s'.gens)
  (wc:∀b∈ch,(b∈X.ex∨X.s₀.heap.objs.size<=b)/\b≠X.env.locals/\(∀x c,X.env.cells.lookup x=some c->c≠b)/\∀p∈X.pn++pins,p.1≠b):Inv X pins σ H' s':=by
 obtain⟨h',g',d',t',o'⟩:=s'
 have e:o'=s.os:=ho
 subst e
 exact I.call (g':=g') (t':=t') (d':=d') u bC hg wc
end
abbrev XK:=Value->Option Addr->Hp->Prop
noncomputable abbrev St:=List (Option V)
abbrev VK:=V->Hp->Prop
abbrev TE:=St->Hp->VK->Prop
abbrev TT:=St->Hp->(Bool->Hp->Prop)->Prop
abbrev TA:=St->Hp->(List V->Hp->Prop)->Prop
structure Ends where
 nx:St->Hp->Prop
 rt:VK
 bk:St->Hp->Prop:=fun _ _=>False
 ct:St->Hp->Prop:=fun _ _=>False
abbrev TS:=Ends->St->Hp->Prop
def EP (X:Cx)(pins:List (Addr×Obj))(σ:St)(Q:VK)(u:Value)(s':Shared):Prop:=dS fun v H'=>Inv X pins σ H' s'/\RelV v u/\Q v H'
def TP (X:Cx)(pins:List (Addr×Obj))(σ:St)(Q:Bool->Hp->Prop)(b:Bool)(s':Shared):Prop:=∃H',Inv X pins σ H' s'/\Q b H'
def AP (X:Cx)(pins:List (Addr×Obj))(σ:St)(Q:List V->Hp->Prop)(us:List Value)(s':Shared):Prop:=dS fun vs H'=>Inv X pins σ H' s'/\Vals vs us/\Q vs H'
instance Sm {X:Cx} {pins:List (Addr×Obj)} {σ:St} {Q:VK} {u:Value} {s':Shared}:ai (EP X pins σ Q u s') (fun G=>∀v H',Inv X pins σ H' s'->RelV v u->Q v H'->G):=⟨fun⟨v,H',a,b,c⟩ _ k=>k v H' a b c⟩
instance RH {X:Cx} {pins:List (Addr×Obj)} {σ:St} {Q:Bool->Hp->Prop} {b:Bool} {s':Shared}:ai (TP X pins σ Q b s') (fun G=>∀H',Inv X pins σ H' s'->Q b H'->G):=⟨fun⟨H',a,c⟩ _ k=>k H' a c⟩
instance TR {X:Cx} {pins:List (Addr×Obj)} {σ:St} {Q:List V->Hp->Prop} {us:List Value} {s':Shared}:ai (AP X pins σ Q us s') (fun G=>∀vs H',Inv X pins σ H' s'->Vals vs us->Q vs H'->G):=⟨fun⟨v,H',a,b,c⟩ _ k=>k v H' a b c⟩
def SP (X:Cx)(pins:List (Addr×Obj))(D:Ends)(f:Flow)(s':Shared):Prop:=
 match f with
 | .next=>dS fun σ' H'=>Inv X pins σ' H' s'/\D.nx σ' H'
 | .brk=>dS fun σ' H'=>Inv X pins σ' H' s'/\D.bk σ' H'
 | .cont=>dS fun σ' H'=>Inv X pins σ' H' s'/\D.ct σ' H'
 | .ret u=>m7 fun v σ' H'=>Inv X pins σ' H' s'/\RelV v u/\D.rt v H'
def PE (X:Cx)(e:Expr)(t:TE):Prop:=
 ∀ ⦃pins:List (Addr×Obj)⦄ (s:Shared) (σ:St) (H:Hp) (Q:VK),Inv X pins σ H s->t σ H Q->wpAny (model X.prog X.w) X.A (eval e X.env) (EP X pins σ Q) X.xe s
def PT (X:Cx)(e:Expr)(t:TT):Prop:=
 ∀ ⦃pins:List (Addr×Obj)⦄ (s:Shared) (σ:St) (H:Hp) (Q:Bool->Hp->Prop),Inv X pins σ H s->t σ H Q->wpAny (model X.prog X.w) X.A (isTrue e X.env (eval e X.env)) (TP X pins σ Q) X.xe s
def PW (X:Cx)(e:Expr)(t:TT):Prop:=
 ∀ ⦃whole:Sem Value⦄ ⦃pins:List (Addr×Obj)⦄ (s:Shared) (σ:St) (H:Hp) (Q:Bool->Hp->Prop),Inv X pins σ H s->t σ H Q->wpAny (model X.prog X.w) X.A (isTrue e X.env whole) (TP X pins σ Q) X.xe s
theorem PW.pt {X:Cx}{e:Expr}{t:TT}(h:PW X e t):PT X e t:=fun pins s σ H Q I q=>h s σ H Q I q
def PA (X:Cx)(es:List Expr)(t:TA):Prop:=
 ∀ ⦃pos:Pos⦄ ⦃pins:List (Addr×Obj)⦄ (s:Shared) (σ:St) (H:Hp) (Q:List V->Hp->Prop),Inv X pins σ H s->t σ H Q->wpAny (model X.prog X.w) X.A (spliced (backTo pos (starEach es X.env))) (AP X pins σ Q) X.xe s
def PS (X:Cx)(st:Stmt)(t:TS):Prop:=
 ∀ ⦃pins:List (Addr×Obj)⦄ (s:Shared) (σ:St) (H:Hp) (D:Ends),Inv X pins σ H s->t D σ H->wpAny (model X.prog X.w) X.A (exec st X.env) (SP X pins D) X.xe s
def yU (X:Cx)(st:List Stmt)(t:TS):Prop:=
 ∀ ⦃pins:List (Addr×Obj)⦄ (s:Shared) (σ:St) (H:Hp) (D:Ends),Inv X pins σ H s->t D σ H->wpAny (model X.prog X.w) X.A (execs st X.env) (SP X pins D) X.xe s
theorem bg {α:Type}{t:Sem α}{Q Q': α->Shared->Prop}{M:Model}{A:Around}{E:Value->Shared->Prop}{s:Shared}(h:wpAny M A t Q E s)(hQ:∀a s,Q a s->Q' a s):wpAny M A t Q' E s:=wpAny_mono h hQ fun _ _ x=>x
section
variable {X:Cx}
def Dw (i:Nat):TE:=fun σ H Q=>∃v,σ[i]? = some (some v)/\Q v H
def tC (v:V):TE:=fun _ H Q=>Q v H
theorem LW {i:Nat}{x:Str}{pos:Pos}(hN:X.N[i]? = some x)(hv:Mi X.env.scope x)(hd:(x==("__debug__" : Str))=false:=by decide)(wX:(x==("__classdict__" : Str))=false:=by decide):PE X (.Name x pos) (Dw i):=by
 intro pins s σ H Q I h
 obtain⟨v,e,h⟩:=h
 obtain⟨m,hn,hl⟩:=I.loc
 obtain⟨u,r,l⟩:=hl i x v hN e hv
 have fin:EP X pins σ Q u s:=⟨v,H,I,r,h⟩
 rcases l with ⟨hk,hm⟩|⟨hk,c,hc,hcell⟩
 ·exact wpAny_Name (wpAny_loadName_local I.ok.kind hk hn hm fin) hd
 ·rcases hk with hk|hk
  ·exact wpAny_Name (wpAny_loadName_cell I.ok.kind hk hc hcell fin) hd
  ·exact wpAny_Name (wpAny_loadName_free I.ok.kind hk hc hcell fin wX) hd
theorem ah {i j pos}:PE X (.Constant (.int i) j pos) (tC (.int i)):=fun _ _ _ H _ I h=>wpAny_Constant_int ⟨.int i,H,I.tok _,⟨_,rfl⟩,h⟩
theorem hR {b j pos}:PE X (.Constant (.bool b) j pos) (tC (.bl b)):=fun _ _ _ H _ I h=>Constant_bool ⟨.bl b,H,I,rfl,h⟩
theorem fz {j pos}:PE X (.Constant .none j pos) (tC .non):=fun _ _ _ H _ I h=>Constant_none ⟨.non,H,I,rfl,h⟩
theorem aq {x j pos}:PE X (.Constant (.str x) j pos) (tC (.str x)):=fun _ _ _ H _ I h=>Calls.Constant_str ⟨.str x,H,I.tok _,⟨_,rfl⟩,h⟩
def Gl (X:Cx)(x:Str):Prop:=X.env.kindOf x=some .globalImplicit
theorem kh {E:Value->Shared->Prop}{pins:List (Addr×Obj)}{s:Shared}{σ:St}{H:Hp}{x:Str}{u:Value}{pos:Pos}{Q:Value->Shared->Prop}(I:Inv X pins σ H s)(hg:Gl X x)(hm:X.mg x=some u)(h:Q u s)
  (hd:(x==("__debug__" : Str))=false:=by decide):wpAny (model X.prog X.w) X.A (eval (.Name x pos) X.env) Q E s:=
 Calls.Name_function_global I.ok.kind hg (Calls.loadGlobal_global (by rw[I.ok.glob];exact I.mod.glob.keeps I.bk) hm h) hd
theorem dY {E:Value->Shared->Prop}{pins:List (Addr×Obj)}{s:Shared}{σ:St}{H:Hp}{x:Str}{u:Value}{pos:Pos}{Q:Value->Shared->Prop}(I:Inv X pins σ H s)(hg:Gl X x)(hm:X.mg x=none)(hv:bootBuiltins x=some u)(h:Q u s)
  (hn:x ≠ "__name__":=by decide) (hd:(x==("__debug__" : Str))=false:=by decide):wpAny (model X.prog X.w) X.A (eval (.Name x pos) X.env) Q E s:=by
 obtain⟨mb,h1,h2⟩:=I.mod.blt
 exact Calls.Name_function_global I.ok.kind hg (Calls.loadGlobal_builtin (by rw[I.ok.glob];exact I.mod.glob.keeps I.bk) hm (by rw[I.ok.blt];exact h1.keeps I.bk) ((h2 x hn).trans hv) h) hd
theorem rO {x:Str}{v:V}{u:Value}{pos:Pos}(hg:Gl X x)(hm:X.mg x=some u)(r:RelV v u)(hd:(x==("__debug__" : Str))=false:=by decide):PE X (.Name x pos) (tC v):=
 fun _ _ _ H _ I h=>kh I hg hm ⟨v,H,I,r,h⟩ hd
theorem bH {x:Str}{v:V}{u:Value}{pos:Pos}(hg:Gl X x)(hm:X.mg x=none)(hv:bootBuiltins x=some u)(r:RelV v u)(hn:x ≠ "__name__":=by decide)(hd:(x==("__debug__" : Str))=false:=by decide):PE X (.Name x pos) (tC v):=
 fun _ _ _ H _ I h=>dY I hg hm hv ⟨v,H,I,r,h⟩ hn hd
variable {a b:Expr}{ta tb:TE}{pos:Pos}
def PC (X:Cx)(op:CmpOp)(a b:Expr)(t:TE):Prop:=
 ∀ ⦃pins:List (Addr×Obj)⦄ (s:Shared) (σ:St) (H:Hp) (Q:VK),Inv X pins σ H s->t σ H Q ->
  wpAny (model X.prog X.w) X.A (eval a X.env) (fun v s₁=>wpAny (model X.prog X.w) X.A (eval b X.env) (fun u s₂=>wpAny (model X.prog X.w) X.A (compareOp op v u) (EP X pins σ Q) X.xe s₂) X.xe s₁) X.xe s
def tB (t:TE):TT:=fun σ H Q=>t σ H fun x H1=>∃c,x = .bl c/\Q c H1
theorem JC {op:CmpOp}{t:TE}(h:PC X op a b t)(h1:behindInMarks op b=false:=by first|exact nobehind _ (by decide) (by decide)|rfl):PT X (.Compare a [op] [b] pos) (tB t):=by
 intro pins s σ H Q I hw
 refine wpAny_isTrue_Compare1 (bg (h s σ H _ I hw) fun v s1 h1=>bg h1 fun u s2 h2=>bg h2 fun c s3 hz_=>ai.el hz_ _ fun x H1 I1 r1 q1 =>?_) h1
 obtain⟨d,rfl,q⟩:=q1
 cases r1
 exact wpAny_truthy_bool ⟨H1,I1,q⟩
theorem cf {e:Expr}{t:TE}(h:PE X e t)(he:∀whole,isTrue e X.env whole=(do let v <-whole;standAt e.pos;holding [v] (truthy v)):=by intro _;rfl):PT X e (tB t):=by
 intro pins s σ H Q I hw
 refine isTrue_plain (bg (h s σ H _ I hw) fun v s1 hz_=>ai.el hz_ _ fun x H1 I1 r1 q1 =>?_) (he _)
 obtain⟨d,rfl,q⟩:=q1
 cases r1
 exact wpAny_truthy_bool ⟨H1,I1,q⟩
variable {tA QD:TT}{rest:List Expr}
def Vr (t u:TT):TT:=fun σ H Q=>t σ H fun c H1=>if c=true then u σ H1 Q else Q false H1
def X9 (t u:TT):TT:=fun σ H Q=>t σ H fun c H1=>if c=true then Q true H1 else u σ H1 Q
def US (t:TT):TT:=fun σ H Q=>t σ H fun c H1=>Q (!c) H1
theorem FV (ha:PT X a tA):PW X (.BoolOp .And [a] pos) tA:=by
 intro wh pins s σ H Q I h
 refine isTrue_and (bg (ha s σ H Q I h) fun c s1 e =>?_)
 cases c with
 | true=>exact isTrue_and_nil e
 | false=>exact e
theorem jV (ha:PT X a tA):PW X (.BoolOp .Or [a] pos) tA:=by
 intro wh pins s σ H Q I h
 refine isTrue_or (bg (ha s σ H Q I h) fun c s1 e =>?_)
 cases c with
 | false=>exact isTrue_or_nil e
 | true=>exact e
theorem LK (ha:PT X a tA)(hb:PW X (.BoolOp .And (b::rest) pos) QD):PW X (.BoolOp .And (a::b::rest) pos) (Vr tA QD):=by
 intro wh pins s σ H Q I h
 refine isTrue_and (bg (ha s σ H _ I h) fun c s1 hz_ =>?_)
 refine ai.el hz_ _ ?_
 clear hz_
 rintro H1 I1 q1
 cases c with
 | true=>exact hb s1 σ H1 Q I1 q1
 | false=>exact⟨H1,I1,q1⟩
theorem lW (ha:PT X a tA)(hb:PW X (.BoolOp .Or (b::rest) pos) QD):PW X (.BoolOp .Or (a::b::rest) pos) (X9 tA QD):=by
 intro wh pins s σ H Q I h
 refine isTrue_or (bg (ha s σ H _ I h) fun c s1 hz_ =>?_)
 refine ai.el hz_ _ ?_
 clear hz_
 rintro H1 I1 q1
 cases c with
 | true=>exact⟨H1,I1,q1⟩
 | false=>exact hb s1 σ H1 Q I1 q1
theorem dN (ha:PT X a tA):PT X (.UnaryOp .Not a pos) (US tA):=by
 intro pins s σ H Q I h
 exact isTrue_not (ha s σ H (fun c H1=>Q (!c) H1) I h)
def OS (ta tb:TE):TE:=fun σ H Q=>ta σ H fun x H1=>∃c,x = .bl c/\if c=true then tb σ H1 Q else Q (.bl false) H1
def Pa (ta:TE):TE:=fun σ H Q=>ta σ H fun x H1=>∃c,x = .bl c/\Q (.bl (!c)) H1
theorem jR {op}{t:TE}(h:PE X a t):PE X (.BoolOp op [a] pos) t:=fun pins s σ H Q I hw=>BoolOp_one (h s σ H Q I hw)
theorem eO (ha:PE X a ta)(hb:PE X (.BoolOp .And (b::rest) pos) tb):PE X (.BoolOp .And (a::b::rest) pos) (OS ta tb):=by
 intro pins s σ H Q I h
 refine BoolOp_and (bg (ha s σ H _ I h) fun v s1 hz_ =>?_)
 refine ai.el hz_ _ ?_
 clear hz_
 rintro x H1 I1 r1 q1
 obtain⟨c,rfl,q1⟩:=q1
 cases r1
 refine wpAny_truthy_bool ?_
 cases c with
 | true=>exact hb s1 σ H1 Q I1 q1
 | false=>exact⟨.bl false,H1,I1,rfl,q1⟩
theorem EE (ha:PE X a ta):PE X (.UnaryOp .Not a pos) (Pa ta):=by
 intro pins s σ H Q I h
 refine UnaryOp_ (bg (ha s σ H _ I h) fun v s1 hz_ =>?_)
 refine ai.el hz_ _ ?_
 clear hz_
 rintro x H1 I1 r1 q1
 obtain⟨c,rfl,q1⟩:=q1
 cases r1
 exact not_of (wpAny_truthy_bool ⟨.bl (!c),H1,I1,rfl,q1⟩)
def Va (t:TT)(ta tb:TE):TE:=fun σ H Q=>t σ H fun c H1=>if c=true then ta σ H1 Q else tb σ H1 Q
theorem gA {c:Expr}(hc:PT X c tA)(ha:PE X a ta)(hb:PE X b tb):PE X (.IfExp c a b pos) (Va tA ta tb):=by
 intro pins s σ H Q I h
 refine wpAny_IfExp (bg (hc s σ H _ I h) fun d s1 hz_ =>?_)
 refine ai.el hz_ _ ?_
 clear hz_
 rintro H1 I1 q1
 cases d with
 | true=>exact ha s1 σ H1 Q I1 q1
 | false=>exact hb s1 σ H1 Q I1 q1
end
def bb (K:Ja)(H:Hp)(a:Addr)(xs:List V):Prop:=
 Rd H a (.lst xs) ∨
  m7 fun(o:Obj) (au:Array Value) (n:Nat)=>K.lookup a=some o/\o.cls = .type "list" /\ o.dict=none/\o.data = .seq au n/\au.size<=sizeLine/\Vals xs au.toList
def br (K:Ja)(H:Hp)(a:Addr)(xs:List V):Prop:=
 Rd H a (.tup xs) ∨
  m7 fun(o:Obj) (au:Array Value) (n:Nat)=>K.lookup a=some o/\o.cls = .type "tuple" /\ o.dict=none/\o.data = .seq au n/\au.size<=sizeLine/\Vals xs au.toList
noncomputable def UW:Value->Option V
 | .none=>some .non
 | .bool b=>some (.bl b)
 | .int i _=>some (.int i)
 | .str x _=>some (.str x)
 | .bytes b _=>some (.byt b)
 | .float b _=>some (.flt b)
 | .ref a=>some (.ref a)
 | .type n=>some (.ty n)
 | _=>none
theorem RelV.abs {x:V}{u:Value}(r:RelV x u):UW u=some x:=by
 cases x with
 | non=>cases r;rfl
 | bl _=>cases r;rfl
 | int _=>obtain⟨t,rfl⟩:=r;rfl
 | str _=>obtain⟨t,rfl⟩:=r;rfl
 | byt _=>obtain⟨t,rfl⟩:=r;rfl
 | flt _=>obtain⟨t,rfl⟩:=r;rfl
 | ref _=>cases r;rfl
 | ty _=>cases r;rfl
theorem RelV.inj {x y:V}{u:Value}(r:RelV x u)(q:RelV y u):x=y:=Option.some.inj (r.abs.symm.trans q.abs)
theorem Vals.inj {xs ys:List V}{us:List Value}(h:Vals xs us)(h':Vals ys us):xs=ys:=by
 induction h generalizing ys with
 | nil=>cases h';rfl
 | cons r t ih=>cases h' with|cons r' t'=>rw[RelV.inj r r',ih t']
section
variable {X:Cx}{pins:List (Addr×Obj)}{σ:St}{H:Hp}{s:Shared}{a:Addr}{xs ys:List V}
theorem bb.of {K:Ja}(h:H a=some (.lst xs)):bb K H a xs := .inl (.inl h)
theorem br.of {K:Ja}(h:H a=some (.tup xs)):br K H a xs := .inl (.inl h)
theorem Inv.list (I:Inv X pins σ H s)(h:bb X.K H a xs):∃au:List Value,Vals xs au/\PlainL s.heap a au.toArray/\xs.length<=sizeLine:=by
 rcases h with h|⟨o,au,n,hk,hc,hd,hs,hz,r⟩
 ·obtain⟨z,au,n,r,e⟩:=h.ok I.bC
  exact⟨au,r,⟨_,n,e,rfl,rfl,rfl⟩,z⟩
 ·refine⟨au.toList,r,⟨o,n,I.je a o hk,hc,hd,by simpa using hs⟩,?_⟩
  have e:=r.length
  simp only[Uo] at e
  omega
theorem Inv.tuple (I:Inv X pins σ H s)(h:br X.K H a xs):∃au:List Value,Vals xs au/\IsTup s.heap a au.toArray/\xs.length<=sizeLine:=by
 rcases h with h|⟨o,au,n,hk,hc,hd,hs,hz,r⟩
 ·obtain⟨z,au,r,p⟩:=h.ok I.bC
  exact⟨au,r,p.is,z⟩
 ·refine⟨au.toList,r,⟨o,I.je a o hk,hc,n,by simpa using hs⟩,?_⟩
  have e:=r.length
  simp only[Uo] at e
  omega
theorem Inv.oG (I:Inv X pins σ H s)(h:br X.K H a xs):∃au:List Value,Vals xs au/\sV s.heap a au.toArray/\xs.length<=sizeLine:=by
 rcases h with h|⟨o,au,n,hk,hc,hd,hs,hz,r⟩
 ·obtain⟨z,au,r,p⟩:=h.ok I.bC
  exact⟨au,r,p,z⟩
 ·refine⟨au.toList,r,⟨o,I.je a o hk,hd,hc,n,by simpa using hs⟩,?_⟩
  have e:=r.length
  simp only[Uo] at e
  omega
theorem Inv.og (I:Inv X pins σ H s)(h:bb X.K H a xs)(h':bb X.K H a ys):xs=ys:=by
 obtain⟨au,r,⟨o,n,e,_,_,d⟩,_⟩:=I.list h
 obtain⟨its',r',⟨o',n',e',_,_,d'⟩,_⟩:=I.list h'
 rw[e] at e';cases e'
 rw[d] at d'
 injection d' with d1 _
 have:au=its':=by simpa using congrArg Array.toList d1
 subst this
 exact r.inj r'
theorem Inv.qV (I:Inv X pins σ H s)(h:br X.K H a xs)(h':br X.K H a ys):xs=ys:=by
 obtain⟨au,r,⟨o,e,_,n,d⟩,_⟩:=I.tuple h
 obtain⟨its',r',⟨o',e',_,n',d'⟩,_⟩:=I.tuple h'
 rw[e] at e';cases e'
 rw[d] at d'
 injection d' with d1 _
 have:au=its':=by simpa using congrArg Array.toList d1
 subst this
 exact r.inj r'
end
noncomputable abbrev Cx.p0 (X:Cx)(E:Value->Shared->Prop):Cx:={ X with xe:=E }
noncomputable abbrev Cx.QL (X:Cx):Cx:=X.p0 fun _ _=>False
theorem Cx.Ok.p0 {X:Cx}(ok:X.Ok)(E:Value->Shared->Prop):(X.p0 E).Ok:=
 ⟨ok.mod,ok.kind,ok.glob,ok.blt,ok.above,ok.inj,ok.has,ok.cab,ok.hd,ok.frames,ok.stk,ok.exf,ok.bs,ok.bsz,ok.noex,ok.exfs,ok.kZ,ok.frf⟩
theorem Cx.Ok.iJ {X:Cx}{E:Value->Shared->Prop}(ok:(X.p0 E).Ok):X.Ok:=
 ⟨ok.mod,ok.kind,ok.glob,ok.blt,ok.above,ok.inj,ok.has,ok.cab,ok.hd,ok.frames,ok.stk,ok.exf,ok.bs,ok.bsz,ok.noex,ok.exfs,ok.kZ,ok.frf⟩
section
variable {X:Cx}{pins:List (Addr×Obj)}{σ:St}{H:Hp}{s:Shared}{E:Value->Shared->Prop}
theorem Inv.p0 (I:Inv X pins σ H s)(E:Value->Shared->Prop):Inv (X.p0 E) pins σ H s:=⟨I.ok.p0 E,I.os,I.bare,I.base,I.loc,I.cell,I.free,I.freeC,I.pin,I.bC,I.len⟩
theorem Inv.iJ (I:Inv (X.p0 E) pins σ H s):Inv X pins σ H s:=⟨I.ok.iJ,I.os,I.bare,I.base,I.loc,I.cell,I.free,I.freeC,I.pin,I.bC,I.len⟩
theorem SP.iJ {D:Ends}{f:Flow}{s':Shared}(h:SP (X.p0 E) pins D f s'):SP X pins D f s':=by
 cases f with
 | next=>obtain⟨σ',H',I,q⟩:=h;exact⟨σ',H',I.iJ,q⟩
 | brk=>obtain⟨σ',H',I,q⟩:=h;exact⟨σ',H',I.iJ,q⟩
 | cont=>obtain⟨σ',H',I,q⟩:=h;exact⟨σ',H',I.iJ,q⟩
 | ret u=>obtain⟨v,σ',H',I,r,q⟩:=h;exact⟨v,σ',H',I.iJ,r,q⟩
theorem yU.QL {st:List Stmt}{t:TS}(h:yU X.QL st t):yU X st t:=fun pins s σ H D I hw=>
 wpAny_mono (h s σ H D (I.p0 _) hw) (fun _ _ q=>q.iJ) fun _ _ z=>False.elim z
end
section
variable {X:Cx}{st:Stmt}{rest:List Stmt}{t u:TS}{e:Expr}{te:TE}{pos:Pos}
def bZ:TS:=fun D σ H=>D.nx σ H
def GZ (t u:TS):TS:=fun D σ H=>t { D with nx:=u D } σ H
theorem aM:yU X [] bZ:=fun _ _ σ H _ I h=>wpAny_execs_nil ⟨σ,H,I,h⟩
theorem af (h1:PS X st t)(h2:yU X rest u):yU X (st::rest) (GZ t u):=by
 intro pins s σ H D I h
 refine wpAny_execs_cons (bg (h1 s σ H { D with nx:=u D } I h) fun f s1 q =>?_)
 cases f with
 | next=>
  obtain⟨σ',H',I',q⟩:=q
  exact h2 s1 σ' H' D I' q
 | ret v=>exact q
 | brk=>exact q
 | cont=>exact q
theorem ag (h1:PS X st t):yU X [st] t:=by
 intro pins s σ H D I h
 refine wpAny_execs_cons (bg (h1 s σ H D I h) fun f s1 q =>?_)
 cases f with
 | next=>exact wpAny_execs_nil q
 | ret v=>exact q
 | brk=>exact q
 | cont=>exact q
theorem Inv.quiet {pins:List (Addr×Obj)}{σ:St}{H:Hp}{s:Shared}(I:Inv X pins σ H s):interactive X.env=false:=by simp[interactive,I.ok.kind]
def NZ (te:TE):TS:=fun D σ H=>te σ H fun _ H1=>D.nx σ H1
theorem fN (he:PE X e te)(hs:swapsWith e none pos.line X.env=pure false:=by rfl):PS X (.Expr e pos) (NZ te):=by
 intro pins s σ H D I h
 exact wpAny_Expr_any (bg (he s σ H _ I h) fun v s1 hz_=>ai.el hz_ _ fun x H1 I1 r1 q1=>⟨σ,H1,I1,q1⟩) I.quiet hs
def Tv (te:TE):TS:=fun D σ H=>te σ H D.rt
theorem av (he:PE X e te):PS X (.Return (some e) pos) (Tv te):=by
 intro pins s σ H D I h
 exact wpAny_Return_some (bg (he s σ H _ I h) fun v s1 hz_=>ai.el hz_ _ fun x H1 I1 r1 q1=>⟨x,σ,H1,I1,r1,q1⟩)
def Fv (c:TT)(t u:TS):TS:=fun D σ H=>c σ H fun b H1=>if b=true then t D σ H1 else u D σ H1
theorem bA {c:Expr}{a b:List Stmt}{tc:TT}(hc:PT X c tc)(ha:yU X a t)(hb:yU X b u):PS X (.If c a b pos) (Fv tc t u):=by
 intro pins s σ H D I h
 refine wpAny_If (bg (hc s σ H _ I h) fun d s1 hz_ =>?_)
 refine ai.el hz_ _ ?_
 clear hz_
 rintro H1 I1 q1
 cases d with
 | true=>exact ha s1 σ H1 D I1 q1
 | false=>exact hb s1 σ H1 D I1 q1
end
abbrev TG:=V->St->Hp->(St->Hp->Prop)->Prop
abbrev Bs:=List V->St->Hp->(St->Hp->Prop)->Prop
def PG (X:Cx)(target:Expr)(t:TG):Prop:=
 ∀ ⦃pins:List (Addr×Obj)⦄ (s:Shared) (σ:St) (H:Hp) (v:V) (u:Value) (Q:St->Hp->Prop),Inv X pins σ H s->RelV v u->t v σ H Q ->
  wpAny (model X.prog X.w) X.A (assign target X.env u) (fun _ s'=>dS fun σ' H'=>Inv X pins σ' H' s'/\Q σ' H') X.xe s
def Ou (X:Cx)(ts:List Expr)(t:Bs):Prop:=
 ∀ ⦃pins:List (Addr×Obj)⦄ (s:Shared) (σ:St) (H:Hp) (vs:List V) (us:List Value) (Q:St->Hp->Prop),Inv X pins σ H s->Vals vs us->t vs σ H Q ->
  wpAny (model X.prog X.w) X.A (assignInOrder ((assignEach ts X.env).map (·.2)) us) (fun _ s'=>dS fun σ' H'=>Inv X pins σ' H' s'/\Q σ' H') X.xe s
abbrev LZ:=V->V->V->Hp->(Hp->Prop)->Prop
def NW (X:Cx)(t:LZ):Prop:=
 ∀ ⦃pins:List (Addr×Obj)⦄ (s:Shared) (σ:St) (H:Hp) (o i v:V) (ov iv u:Value) (Q:Hp->Prop),Inv X pins σ H s->RelV o ov->RelV i iv->RelV v u->t o i v H Q ->
  wpAny (model X.prog X.w) X.A (setItem ov iv u) (fun _ s'=>∃H',Inv X pins σ H' s'/\Q H') X.xe s
abbrev Qj:=V->V->Hp->VK->Prop
def V0 (X:Cx)(op:Operator)(t:Qj):Prop:=
 ∀ ⦃pins:List (Addr×Obj)⦄ (s:Shared) (σ:St) (H:Hp) (x y:V) (v u:Value) (Q:VK),Inv X pins σ H s->RelV x v->RelV y u->t x y H Q ->
  wpAny (model X.prog X.w) X.A (inplaceOp op v u) (EP X pins σ Q) X.xe s
section
variable {X:Cx}{pos:Pos}
def md (i:Nat):TG:=fun v σ H Q=>Q (σ.set i (some v)) H
theorem aD {i:Nat}{x:Str}(hN:X.N.Nodup)(hi:X.N[i]? = some x)(hx:Loc X.env.scope x)(hf:X.fn x=true∨X.env.scope.names.lookup x=some .local:=by first|exact .inl rfl|exact .inr rfl|assumption):PG X (.Name x pos) (md i):=by
 intro pins s σ H v u Q I r h
 exact wpAny_assign_Name (iw I hN hi hx r (fun s' I'=>⟨_,H,I',h⟩) hf)
noncomputable def KH:Bs:=fun vs σ H Q=>vs=[]/\Q σ H
noncomputable def D7 (t:TG)(u:Bs):Bs:=fun vs σ H Q=>dS fun v r=>vs=v::r/\t v σ H fun σ' H'=>u r σ' H' Q
theorem cu:Ou X [] KH:=by
 intro pins s σ H vs us Q I r h
 obtain⟨e,h⟩:=h
 subst e
 cases r
 exact assignInOrder_nil ⟨σ,H,I,h⟩
theorem aR {e:Expr}{es:List Expr}{t:TG}{u:Bs}(h1:PG X e t)(h2:Ou X es u)
  (hs:(assignEach (e::es) X.env).map (·.2)=assign e X.env::(assignEach es X.env).map (·.2):=by rfl):Ou X (e::es) (D7 t u):=by
 intro pins s σ H vs us Q I r h
 obtain⟨v,vr,e1,h⟩:=h
 subst e1
 cases r with
 | cons r rr=>
  rw[hs]
  refine assignInOrder_cons (bg (h1 s σ H _ _ _ I r h) fun _ s1 hz_ =>?_)
  refine ai.el hz_ _ ?_
  clear hz_
  rintro σ1 H1 I1 q1
  exact h2 s1 σ1 H1 _ _ Q I1 rr q1
def Ko (K:Ja)(n:Nat)(t:Bs):TG:=fun v σ H Q=>dS fun a xs=>v = .ref a/\br K H a xs/\xs.length=n/\t xs σ H Q
theorem LR {es:List Expr}{k:Nat}{t:Bs}{n:Nat}(hc:X.calm=true)(h:Ou X es t)
  (hn:(assignEach es X.env).length=n:=by rfl) (l9:(assignEach es X.env).findIdx? (·.1)=none:=by rfl):PG X (.Tuple es k pos) (Ko X.K n t):=by
 intro pins s σ H v u Q I r hw
 obtain⟨a,xs,e1,hq,hl,hw⟩:=hw
 subst e1
 cases r
 obtain⟨au,rv,ht,hz⟩:=I.tuple hq
 refine assign_Tuple_tuple (I.ok.hd hc) ht (by simp[hn,<-hl,rv.length]) l9 fun h' hx =>?_
 have I1:Inv X pins σ H { s with heap:=h' }:=I.kept (t':=s.toks) fun b o e=>hx b o (Jm (Jf e)) e
 exact h _ σ H xs _ Q I1 (by simpa using rv) hw
def Rz (to ti:TE)(t:LZ):TG:=fun v σ H Q=>to σ H fun o H1=>ti σ H1 fun i H2=>t o i v H2 fun H3=>Q σ H3
theorem Md {o i:Expr}{to ti:TE}{t:LZ}(ho:PE X o to)(hi:PE X i ti)(hs:NW X t)
  (ha:∀v,assign (.Subscript o i pos) X.env v=(do
   let ov <-holding [v] (eval o X.env)
   let iv <-holding [v,ov] (eval i X.env)
   standAt pos
   holding [v,ov,iv] (setItem ov iv v)
   release [v,ov,iv] []):=by intro _;rfl):PG X (.Subscript o i pos) (Rz to ti t):=by
 intro pins s σ H v u Q I r h
 rw[ha]
 refine wpAny_bind (wpAny_holding (bg (ho s σ H _ I h) fun ov s1 hz_ =>?_))
 refine ai.el hz_ _ ?_
 clear hz_
 rintro x H1 I1 r1 q1
 refine wpAny_bind (wpAny_holding (bg (hi s1 σ H1 _ I1 q1) fun iv s2 hz_ =>?_))
 refine ai.el hz_ _ ?_
 clear hz_
 rintro y H2 I2 r2 q2
 refine wpAny_bind (wpAny_standAt (wpAny_bind (wpAny_holding (bg (hs s2 σ H2 x y v ov iv u _ I2 r1 r2 r q2) fun _ s3 hz_ =>?_))))
 refine ai.el hz_ _ ?_
 clear hz_
 rintro H3 I3 q3
 exact wpAny_release ⟨σ,H3,I3,q3⟩
def Dh (te:TE)(g:TG):TS:=fun D σ H=>te σ H fun x H1=>g x σ H1 D.nx
theorem EF {tg e:Expr}{te:TE}{g:TG}(he:PE X e te)(hg:PG X tg g)(hs:swapsWithSole [tg] e pos.line X.env=pure false:=by rfl)(hw:swappedStores [tg] e X.env=pure none:=by rfl)
  (h1:(assignEach [tg] X.env).map (·.2)=[assign tg X.env]:=by rfl):PS X (.Assign [tg] e pos) (Dh te g):=by
 intro pins s σ H D I h
 refine wpAny_Assign_stores (bg (he s σ H _ I h) fun v s1 hz_=>ai.el hz_ _ fun x H1 I1 r1 q1 =>?_) hs hw
 rw[h1]
 exact bg (hg s1 σ H1 x v _ I1 r1 q1) fun _ s2 q=>q
theorem aF {i:Nat}{x:Str}{e:Expr}{te:TE}{pos':Pos}(hN:X.N.Nodup)(hi:X.N[i]? = some x)(hx:Loc X.env.scope x)(he:PE X e te)(hs:swapsWith e (some (.Name x pos')) pos.line X.env=pure false:=by rfl)(hf:X.fn x=true∨X.env.scope.names.lookup x=some .local:=by first|exact .inl rfl|exact .inr rfl|assumption):
  PS X (.Assign [.Name x pos'] e pos) (Dh te (md i)):=by
 intro pins s σ H D I h
 refine wpAny_Assign_Name (bg (he s σ H _ I h) fun v s1 hz_=>ai.el hz_ _ fun y H1 I1 r1 q1 =>?_) hs
 exact iw I1 hN hi hx r1 (fun s2 I2=>⟨_,H1,I2,q1⟩) hf
def Tq (i j:Nat)(ta:TA):TS:=fun D σ H=>ta σ H fun vs H1=>dS fun v w=>vs=[v,w]/\D.nx ((σ.set i (some v)).set j (some w)) H1
theorem JF {i j:Nat}{x y:Str}{a b:Expr}{ta:TA}{px py pt:Pos}{kt k2 pt2}(hc:X.calm=true)(hN:X.N.Nodup)(hi:X.N[i]? = some x)(hj:X.N[j]? = some y)(vY:i≠j)
  (hx:X.env.scope.names.lookup x=some .local) (hy:X.env.scope.names.lookup y=some .local) (ha:PA X [a,b] ta)
  (hw:swappedStores [.Tuple [.Name x px,.Name y py] kt pt] (.Tuple [a,b] k2 pt2) X.env=pure (some [x,y]))
  (hs:swapsWithSole [.Tuple [.Name x px,.Name y py] kt pt] (.Tuple [a,b] k2 pt2) pos.line X.env=pure false:=by rfl) :
  PS X (.Assign [.Tuple [.Name x px,.Name y py] kt pt] (.Tuple [a,b] k2 pt2) pos) (Tq i j ta):=by
 intro pins s σ H D I h
 rw[exec_Assign_arm]
 refine wpAny_bind (wpAny_standAt ?_)
 rw[hs]
 refine wpAny_bind (wpAny_pure ?_)
 rw[if_neg (by decide)]
 refine wpAny_bind (Tuple_ (bg (ha s σ H _ I h) fun us s1 hz_ =>?_))
 refine ai.el hz_ _ ?_
 clear hz_
 rintro vs H1 I1 r1 q1
 obtain⟨v,w,e1,q1⟩:=q1
 subst e1
 obtain⟨u1,u2,rfl,rv,rw'⟩:∃u1 u2,us=[u1,u2]/\RelV v u1/\RelV w u2:=by
  cases r1 with
  | cons p q=>
   cases q with
   | cons p' q'=>
    cases q'
    exact⟨_,_,rfl,p,p'⟩
 refine wpAny_newObj_type ?_ (by show 2<=sizeLine;decide)
 have I2:Inv X pins σ H1 { s1 with heap:=s1.heap.push { cls := .type "tuple",data := .seq [u1,u2].toArray } }:=I1.kept (t':=s1.toks) fun b o e=>Jb _ e
 rw[hw]
 refine wpAny_bind (wpAny_pure ?_)
 show wpAny (model X.prog X.w) X.A (do rule "assign.swapped-stores";let items <-unpackItems (.ref s1.heap.objs.size) 2 none;assignInOrder [fun v=>bindName X.env y v,fun v=>bindName X.env x v] items.reverse;pure Flow.next) _ _ _
 refine wpAny_bind (wpAny_rule (wpAny_bind (unpackItems_tuple (items := #[u1,u2]) (I.ok.hd hc) (IsTup.new s1.heap _) fun h' mE =>?_)))
 have I3:=I2.kept (h':=h') (t':=s1.toks) fun b o e=>mE b o (Jm (Jf e)) e
 show wpAny _ _ (assignInOrder [fun v=>bindName X.env y v,fun v=>bindName X.env x v] [u2,u1] >>= fun _=>pure Flow.next) _ _ _
 refine wpAny_bind (assignInOrder_cons (wpAny_bindName (iw I3 hN hj (.inl hy) rw' (fun s2 I4 =>?_) (.inr hy))))
 refine assignInOrder_cons (wpAny_bindName (iw I4 hN hi (.inl hx) rv (fun s3 I5=>assignInOrder_nil (wpAny_pure ?_)) (.inr hx)))
 rw[List.set_comm _ _ (Ne.symm vY)] at I5
 exact⟨_,H1,I5,q1⟩
def RQ (i:Nat)(te:TE)(ti:Qj):TS:=fun D σ H=>∃x,σ[i]? = some (some x)/\te σ H fun y H1=>ti x y H1 fun z H2=>D.nx (σ.set i (some z)) H2
theorem xk {i:Nat}{x:Str}{e:Expr}{te:TE}{op:Operator}{ti:Qj}{pos':Pos}(hN:X.N.Nodup)(hi:X.N[i]? = some x)(hx:Loc X.env.scope x)(he:PE X e te)(ho:V0 X op ti)(hf:X.fn x=true∨X.env.scope.names.lookup x=some .local:=by first|exact .inl rfl|exact .inr rfl|assumption):
  PS X (.AugAssign (.Name x pos') op e pos) (RQ i te ti):=by
 intro pins s σ H D I h
 obtain⟨v,e1,h⟩:=h
 obtain⟨m,hn,hl⟩:=I.loc
 have NH:Mi X.env.scope x:=by rcases hx with k|k;exact .inl k;exact .inr (.inl k)
 obtain⟨u,r,l⟩:=hl i x v hi e1 NH
 refine wpAny_AugAssign_Name ?_
 have go:wpAny (model X.prog X.w) X.A (eval e X.env) (fun w s₂=>wpAny (model X.prog X.w) X.A (inplaceOp op u w) (fun r s₃=>wpAny (model X.prog X.w) X.A (storeName X.env x r) (fun _=>SP X pins D .next) X.xe s₃) X.xe s₂) X.xe s:=by
  refine bg (he s σ H _ I h) fun w s1 hz_ =>?_
  refine ai.el hz_ _ ?_
  clear hz_
  rintro y H1 I1 r1 q1
  refine bg (ho s1 σ H1 v y u w _ I1 r r1 q1) fun z s2 hz_ =>?_
  refine ai.el hz_ _ ?_
  clear hz_
  rintro zv H2 I2 r2 q2
  exact iw I2 hN hi hx r2 (fun s3 I3=>⟨_,H2,I3,q2⟩) hf
 rcases l with ⟨hk,hm⟩|⟨hk,c,hc,hcell⟩
 ·exact wpAny_loadName_local I.ok.kind hk hn hm go
 ·rcases hk with hk|hk
  ·exact wpAny_loadName_cell I.ok.kind hk hc hcell go
  ·rcases hx with k|k
   ·have:X.env.scope.names.lookup x=some .free:=hk
    rw[k] at this;cases this
   ·have:X.env.scope.names.lookup x=some .free:=hk
    rw[k] at this;cases this
noncomputable def Xq (f:Int->Int->Int):Qj:=fun x y H Q=>dS fun i j=>x = .int i/\y = .int j/\Q (.int (f i j)) H
theorem DJ:V0 X .Add (Xq fun i j=>i+j):=by
 intro pins s σ H x y v u Q I r1 r2 h
 obtain⟨i,j,e1,e2,q⟩:=h
 subst e1;subst e2
 obtain⟨t,rfl⟩:=r1
 obtain⟨t',rfl⟩:=r2
 exact iadd_int ⟨.int _,H,I.tok _,⟨_,rfl⟩,q⟩
end
section
variable {X:Cx}{pos:Pos}
def mY (c:TT)(tb:TS):TS:=fun D σ H=>∃W:Nat->St->Hp->Prop,(∃m,W m σ H)/\∀m σ H,W m σ H ->
 c σ H fun b H1=>if b=true then ∃N:St->Hp->Prop,(∀ σ' H',N σ' H'->∃m',m'<m/\W m' σ' H')/\tb { D with nx:=N,ct:=N,bk:=D.nx } σ H1 else D.nx σ H1
theorem pG {c:Expr}{body:List Stmt}{tc:TT}{tb:TS}(hp:PassesOwn (model X.prog X.w) X.A X.env X.xe)(hc:PT X c tc)(hb:yU X body tb):PS X (.While c body [] pos) (mY tc tb):=by
 intro pins s σ H D I h
 obtain⟨W,⟨m0,w0⟩,turn⟩:=h
 refine wpAny_While (codeAny_whileLoop (fun n s'=>∃ σ' H',Inv X pins σ' H' s'/\W n σ' H') ?_ m0 ⟨σ,H,I,w0⟩)
 rintro n s1 ⟨σ1,H1,I1,w1⟩
 refine wpAny_passesOwn hp (bg (hc s1 σ1 H1 _ I1 (turn n σ1 H1 w1)) fun b s2 hz_ =>?_)
 refine ai.el hz_ _ ?_
 clear hz_
 rintro H2 I2 q2
 cases b with
 | true=>
  obtain⟨N,hN,q2⟩:=q2
  rw[if_pos rfl]
  refine wpAny_passesOwn hp (bg (hb s2 σ1 H2 _ I2 q2) fun f s3 q3 =>?_)
  cases f with
  | next=>
   obtain⟨σ3,H3,I3,n3⟩:=q3
   obtain⟨m',hm,w3⟩:=hN σ3 H3 n3
   exact⟨m',hm,σ3,H3,I3,w3⟩
  | cont=>
   obtain⟨σ3,H3,I3,n3⟩:=q3
   obtain⟨m',hm,w3⟩:=hN σ3 H3 n3
   exact⟨m',hm,σ3,H3,I3,w3⟩
  | brk=>exact q3
  | ret v=>exact q3
 | false=>
  rw[if_neg Jl]
  exact wpAny_execs_nil ⟨σ1,H2,I2,q2⟩
end
structure It where
 go:Nat->Hp->Prop
 yld:Nat->Hp->V->Hp->Prop
 stop:Nat->Hp->Prop
def dE (X:Cx)(pins:List (Addr×Obj))(H:Hp)(b:Addr):Prop:=
 H b=none/\b≠X.env.locals/\b∉X.fs/\(b∈X.ex∨X.s₀.heap.objs.size<=b)/\(∀x c,X.env.cells.lookup x=some c->c≠b)/\∀p∈X.pn++pins,p.1≠b
theorem Inv.eB {X:Cx}{pins:List (Addr×Obj)}{σ:St}{H H':Hp}{s:Shared}{b:Addr}(I:Inv X pins σ H s)(hb:s.heap.objs.size<=b)(hn:H' b=none):dE X pins H' b:=by
 refine⟨hn,Uc (Jq I.lt hb),I.N5 hb,.inr (Jh I.sz hb),fun x c e z =>?_,fun p hp z =>?_⟩
 ·obtain⟨v,q⟩:=I.cell x c e
  exact absurd (Jq q.lt (by rw[z];exact hb)) (J7 _)
 ·exact absurd (Jq (Jf (I.pin p hp).1) (by rw[z];exact hb)) (J7 _)
structure Turn (P:Program)(w:World)(K:Ja)(tg:Expr)(J:It)(fp:List Addr)(it:Addr)(tn:Nat->Heap->Prop):Prop where
 mem:it∈fp
 obj:∀i h,tn i h->∀b∈fp,∃o,h.get? b=some o/\∀v,o.data ≠ .cell v
 keep:∀i h h',tn i h->(∀b∈fp,∀o,h.get? b=some o->h'.get? b=some o)->tn i h'
 item:∀(X:Cx),X.prog=P->X.w=w->X.K=K->X.calm=true->∀(i:Nat) (pins:List (Addr×Obj)) (s:Shared) (σ:St) (H:Hp) (E:Value->Shared->Prop),Inv X pins σ H s->(∀b∈fp,dE X pins H b)->tn i s.heap->J.go i H ->
  wpAny (model P w) X.A (pyNext (.ref it)) (fun r s1=>∃u,r=some u /\
   wpAny (model P w) X.A (letOwnedTupleGo tg (.ref it) u) (fun _ s2=>∃x H',Inv X pins σ H' s2/\RelV x u/\J.yld i H x H'/\tn (i+1) s2.heap/\∀b∈fp,H' b=none) E s1) E s
 done:∀(X:Cx),X.prog=P->X.w=w->X.K=K->X.calm=true->∀(i:Nat) (pins:List (Addr×Obj)) (s:Shared) (σ:St) (H:Hp) (E:Value->Shared->Prop),Inv X pins σ H s->(∀b∈fp,dE X pins H b)->tn i s.heap->J.stop i H ->
  wpAny (model P w) X.A (pyNext (.ref it)) (fun r s1=>r=none/\Inv X pins σ H s1) E s
 self:∀(A:Around) (i:Nat) (s:Shared) (Q:Value->Shared->Prop) (E:Value->Shared->Prop),tn i s.heap->Q (.ref it) s->wpAny (model P w) A (pyIter (.ref it)) Q E s
abbrev TI:=St->Hp->(It->Hp->Prop)->Prop
def VY (X:Cx)(pins:List (Addr×Obj))(σ:St)(tg:Expr)(R:It->Hp->Prop)(MG:Value)(s2:Shared):Prop:=
 wb fun(it:Addr) (fp:List Addr) (tn:Nat->Heap->Prop) (J:It) (H':Hp)=>MG = .ref it/\Inv X pins σ H' s2/\Turn X.prog X.w X.K tg J fp it tn/\tn 0 s2.heap/\(∀b∈fp,dE X pins H' b)/\R J H'
def PI (X:Cx)(tg iter:Expr)(wi:TI):Prop:=
 ∀ ⦃pins:List (Addr×Obj)⦄ (s:Shared) (σ:St) (H:Hp) (R:It->Hp->Prop),Inv X pins σ H s->wi σ H R ->
  wpAny (model X.prog X.w) X.A (eval iter X.env) (fun v s1=>wpAny (model X.prog X.w) X.A (pyIter v) (VY X pins σ tg R) X.xe s1) X.xe s
theorem Dx {M:Model}{A:Around}{E:Value->Shared->Prop}{s:Shared}{tg:Expr}{it:Addr}{u:Value}{o:Obj}{n:String}{vs:Array Value}{Q:Unit->Shared->Prop}(ho:s.heap.get? it=some o)(hc:o.cls = .type n)(hd:o.data = .fields vs)
  (hn:["enumerate", "zip", "dict_itemiterator", "dict_reverseitemiterator", "odict_iterator", "itertools.zip_longest", "itertools.pairwise"].contains n=false) (hQ:Q () s):wpAny M A (letOwnedTupleGo tg (.ref it) u) Q E s:=by
 unfold letOwnedTupleGo
 cases tg<;>first
  | exact wpAny_pure hQ
  | (cases u<;>first
    | exact wpAny_pure hQ
    | (refine wpAny_bind (wpAny_load ho ?_)
       rw[hc,hd]
       show wpAny M A (if (["enumerate", "zip", "dict_itemiterator", "dict_reverseitemiterator", "odict_iterator", "itertools.zip_longest", "itertools.pairwise"].contains n&&vs[0]? == some (rawInt _))=true then _ else _) Q E s
       rw[if_neg (by intro h;rw[hn,Yh] at h;cases h)]
       exact wpAny_pure hQ))
noncomputable def Np (K:Ja)(a:Addr):It:=
 ⟨fun i H=>dS fun xs x=>bb K H a xs/\xs[i]? = some x,fun i H x H'=>H'=H/\∀xs,bb K H a xs->xs[i]? = some x,fun i H=>∃xs,bb K H a xs/\xs.length<=i⟩
noncomputable def VO (K:Ja)(a:Addr):It:=
 ⟨fun i H=>dS fun xs x=>br K H a xs/\xs[i]? = some x,fun i H x H'=>H'=H/\∀xs,br K H a xs->xs[i]? = some x,fun i H=>∃xs,br K H a xs/\xs.length<=i⟩
noncomputable def Ms (lo:Int)(n:Nat):It:=⟨fun i _=>i<n,fun i H x H'=>H'=H/\x = .int (lo+i),fun i _=>n<=i⟩
theorem BV {P:Program}{w:World}{K:Ja}{tg:Expr}(a it:Addr):Turn P w K tg (Np K a) [it] it (fun i h=>h.IsListIter it a i) where
 mem:=by simp
 obj:=fun i h st b hb=>by
  have e:b=it:=by simpa using hb
  subst e
  obtain⟨o,e,c,d⟩:=st
  exact⟨o,e,fun v z=>by rw[d] at z;cases z⟩
 keep:=fun i h h' st k=>st.at fun o e=>k it (by simp) o e
 item:=by
  intro X hP hw hK hc i pins s σ H E I hf st hg
  subst hP hw hK
  obtain⟨xs,x,hq,hx⟩:=hg
  obtain⟨au,rv,p,hz⟩:=I.list hq
  obtain⟨u,hu,ru⟩:=rv.get hx
  obtain⟨f0,f1,f2,f3,f4,f5⟩:=hf it (by simp)
  refine wpAny_pyNext_list_item st p.isList (x:=u) (by simpa using hu) fun h' st' sb =>?_
  have I1:Inv X pins σ H { s with heap:=h' }:=I.turned (t':=s.toks) (fun b o hb e=>(sb.2 b hb).trans e) f0 f1 f3 f4 f5
  obtain⟨o,e,c,d⟩:=id st'
  exact⟨u,rfl,Dx (s:={ s with heap:=h' }) e c d (by decide) ⟨x,H,I1,ru,⟨rfl,fun ys hy=>by rw[I.og hy hq];exact hx⟩,st',fun b hb=>(hf b hb).1⟩⟩
 done:=by
  intro X hP hw hK hc i pins s σ H E I hf st hg
  subst hP hw hK
  obtain⟨xs,hq,hx⟩:=hg
  obtain⟨au,rv,p,hz⟩:=I.list hq
  obtain⟨f0,f1,f2,f3,f4,f5⟩:=hf it (by simp)
  have hl:=rv.length
  exact wpAny_pyNext_list_end (I.ok.hd hc) st p.isList (by simp;omega) fun h' eb=>⟨rfl,I.turned (t':=s.toks) (fun b o hb e=>eb b o hb e) f0 f1 f3 f4 f5⟩
 self:=fun _ _ _ _ _ st h=>wpAny_pyIter_listiter st h
theorem xZ {P:Program}{w:World}{K:Ja}{tg:Expr}(a it:Addr):Turn P w K tg (VO K a) [it] it (fun i h=>h.IsTupleIter it a i) where
 mem:=by simp
 obj:=fun i h st b hb=>by
  have e:b=it:=by simpa using hb
  subst e
  obtain⟨o,e,c,d⟩:=st
  exact⟨o,e,fun v z=>by rw[d] at z;cases z⟩
 keep:=fun i h h' st k=>st.at fun o e=>k it (by simp) o e
 item:=by
  intro X hP hw hK hc i pins s σ H E I hf st hg
  subst hP hw hK
  obtain⟨xs,x,hq,hx⟩:=hg
  obtain⟨au,rv,p,hz⟩:=I.tuple hq
  obtain⟨u,hu,ru⟩:=rv.get hx
  obtain⟨f0,f1,f2,f3,f4,f5⟩:=hf it (by simp)
  refine wpAny_pyNext_tuple_item st (show s.heap.IsTuple a au.toArray from p) (x:=u) (by simpa using hu) fun h' st' sb =>?_
  have I1:Inv X pins σ H { s with heap:=h' }:=I.turned (t':=s.toks) (fun b o hb e=>(sb.2 b hb).trans e) f0 f1 f3 f4 f5
  obtain⟨o,e,c,d⟩:=id st'
  exact⟨u,rfl,Dx (s:={ s with heap:=h' }) e c d (by decide) ⟨x,H,I1,ru,⟨rfl,fun ys hy=>by rw[I.qV hy hq];exact hx⟩,st',fun b hb=>(hf b hb).1⟩⟩
 done:=by
  intro X hP hw hK hc i pins s σ H E I hf st hg
  subst hP hw hK
  obtain⟨xs,hq,hx⟩:=hg
  obtain⟨au,rv,p,hz⟩:=I.tuple hq
  obtain⟨f0,f1,f2,f3,f4,f5⟩:=hf it (by simp)
  have hl:=rv.length
  exact wpAny_pyNext_tuple_end (I.ok.hd hc) st (show s.heap.IsTuple a au.toArray from p) (by simp;omega) fun h' eb=>⟨rfl,I.turned (t':=s.toks) (fun b o hb e=>eb b o hb e) f0 f1 f3 f4 f5⟩
 self:=fun _ _ _ _ _ st h=>wpAny_pyIter_tupleiter st h
theorem wK {P:Program}{w:World}{K:Ja}{tg:Expr}(it:Addr)(lo:Int)(n:Nat):Turn P w K tg (Ms lo n) [it] it (fun i h=>IsRangeIter h it (lo+(i:Nat)*1) ((n:Int)-(i:Nat)) 1) where
 mem:=by simp
 obj:=fun i h st b hb=>by
  have e:b=it:=by simpa using hb
  subst e
  exact⟨_,st,fun v z=>by
   have z':Data.fields _=Data.cell v:=z
   cases z'⟩
 keep:=fun i h h' st k=>k it (by simp) _ st
 item:=by
  intro X hP hw hK hc i pins s σ H E I hf st hg
  subst hP hw hK
  obtain⟨f0,f1,f2,f3,f4,f5⟩:=hf it (by simp)
  have W:=Walks.range (prog:=X.prog) (w:=X.w) (I.ok.hd hc) it lo 1 n
  refine W.item i s _ _ hg st fun v h' tk hv st' kk =>?_
  obtain⟨t,rfl⟩:=hv
  have I1:Inv X pins σ H { s with heap:=h',toks:=tk }:=I.turned (fun b o hb e=>kk b o (by simpa using hb) e) f0 f1 f3 f4 f5
  refine⟨_,rfl,Dx (s:={ s with heap:=h',toks:=tk }) (n := "range_iterator") st' rfl rfl (by decide) ⟨.int (lo+i),H,I1,⟨t,?_⟩,⟨rfl,rfl⟩,st',fun b hb=>(hf b hb).1⟩⟩
  rw[Int.mul_one]
 done:=by
  intro X hP hw hK hc i pins s σ H E I hf st hg
  subst hP hw hK
  obtain⟨f0,f1,f2,f3,f4,f5⟩:=hf it (by simp)
  exact wpAny_pyNext_range_end (I.ok.hd hc) st (by have:n<=i:=hg;omega) fun h' eb=>⟨rfl,I.turned (t':=s.toks) (fun b o hb e=>eb b o hb e) f0 f1 f3 f4 f5⟩
 self:=fun _ _ _ _ _ st h=>wpAny_pyIter_rangeiter st h
section
variable {X:Cx}{tg:Expr}
def Iq (K:Ja)(tl:TE):TI:=fun σ H R=>tl σ H fun x H1=>∃a,x = .ref a/\(∃xs,bb K H1 a xs)/\R (Np K a) H1
def Nk (K:Ja)(tl:TE):TI:=fun σ H R=>tl σ H fun x H1=>∃a,x = .ref a/\(∃xs,br K H1 a xs)/\R (VO K a) H1
theorem FJ {l:Expr}{tl:TE}(hl:PE X l tl):PI X tg l (Iq X.K tl):=by
 intro pins s σ H R I h
 refine bg (hl s σ H _ I h) fun v s1 hz_ =>?_
 refine ai.el hz_ _ ?_
 clear hz_
 rintro x H1 I1 r1 q1
 obtain⟨a,e,⟨xs,hq⟩,q⟩:=q1
 subst e
 cases r1
 obtain⟨au,rv,p,hz⟩:=I1.list hq
 refine wpAny_pyIter_list p.isList ?_
 refine⟨s1.heap.objs.size,[s1.heap.objs.size],_,_,H1,rfl,I1.kept (t':=s1.toks) fun b o e=>Jb _ e,BV a _,⟨_,Jk _ rfl,rfl,rfl⟩,fun b hb =>?_,q⟩
 have e:b=s1.heap.objs.size:=by simpa using hb
 subst e
 exact I1.eB (Je _) (I1.bC.fresh (Je _))
theorem Mb {l:Expr}{tl:TE}(hl:PE X l tl):PI X tg l (Nk X.K tl):=by
 intro pins s σ H R I h
 refine bg (hl s σ H _ I h) fun v s1 hz_ =>?_
 refine ai.el hz_ _ ?_
 clear hz_
 rintro x H1 I1 r1 q1
 obtain⟨a,e,⟨xs,hq⟩,q⟩:=q1
 subst e
 cases r1
 obtain⟨au,rv,p,hz⟩:=I1.tuple hq
 refine wpAny_pyIter_tuple (show s1.heap.IsTuple a au.toArray from p) ?_
 refine⟨s1.heap.objs.size,[s1.heap.objs.size],_,_,H1,rfl,I1.kept (t':=s1.toks) fun b o e=>Jb _ e,xZ a _,⟨_,Jk _ rfl,rfl,rfl⟩,fun b hb =>?_,q⟩
 have e:b=s1.heap.objs.size:=by simpa using hb
 subst e
 exact I1.eB (Je _) (I1.bC.fresh (Je _))
theorem Dd {pins:List (Addr×Obj)}{σ:St}{H:Hp}{s:Shared}{R:It->Hp->Prop}{E:Value->Shared->Prop}{lo hi:Int}{t u v:Tok}{tk:Nat}(I:Inv X pins σ H s)(h1: -(2^62)<=lo)(h2:lo<2^62)(h3: -(2^62)<=hi)(h4:hi<2^62)
  (q:R (Ms lo (hi-lo).toNat) H):wpAny (model X.prog X.w) X.A (pyIter (.ref s.heap.objs.size)) (VY X pins σ tg R) E { s with heap:=s.heap.push { cls := .type "range",data := .fields #[.int lo t,.int hi u,.int 1 v] },toks:=tk }:=by
 refine wpAny_pyIter_range (IsRange.new ..) (small_one h1 h2 h3 h4) ?_
 have I1:Inv X pins σ H { s with heap:=s.heap.push { cls := .type "range",data := .fields #[.int lo t,.int hi u,.int 1 v] },toks:=tk }:=I.kept fun b o e=>Jb _ e
 refine⟨(s.heap.push { cls := .type "range",data := .fields #[.int lo t,.int hi u,.int 1 v] }).objs.size,[(s.heap.push { cls := .type "range",data := .fields #[.int lo t,.int hi u,.int 1 v] }).objs.size],_,_,H,rfl,
  I1.kept (t':=tk) fun b o e=>Jb _ e,wK _ lo (hi-lo).toNat,?_,fun b hb =>?_,q⟩
 ·have e1:lo+((0:Nat):Int)*1=lo:=by simp
  have e2:(((hi-lo).toNat:Nat):Int)-((0:Nat):Int)=Builtin.Range.rangeSize lo hi 1:=by rw[rangeSize_one];split<;>omega
  show IsRangeIter _ _ (lo+((0:Nat):Int)*1) ((((hi-lo).toNat:Nat):Int)-((0:Nat):Int)) 1
  rw[e1,e2]
  exact Jk _ rfl
 ·have e:b=(s.heap.push { cls := .type "range",data := .fields #[.int lo t,.int hi u,.int 1 v] }).objs.size:=by simpa using hb
  subst e
  exact I1.eB (Je _) (I1.bC.fresh (Je _))
def Nr (ta:TA):TI:=fun σ H R=>ta σ H fun vs H1=>∃j:Int,vs=[.int j] /\ -(2^62)<=j/\j<2^62/\R (Ms 0 j.toNat) H1
theorem dX {a:Expr}{ta:TA}{p pos:Pos}(hg:Gl X "range")(hm:X.mg "range" = none)(ha:PA X [a] ta)(hs:starEach [a] X.env=[(false,eval a X.env)]:=by rfl):PI X tg (.Call (.Name "range" p) [a] [] pos) (Nr ta):=by
 intro pins s σ H R I h
 refine Call_ (dY I hg hm boot_range (PyProof.Rows.callWith_type1 (bg (ha s σ H _ I h) fun us s1 hz_=>ai.el hz_ _ fun vs H1 I1 r1 q1 =>?_) hs rfl))
 obtain⟨j,e,q1,q2,q⟩:=q1
 subst e
 cases r1 with
 | cons r rr=>
  cases rr
  obtain⟨t,rfl⟩:=r
  exact call_range_1 (Dd I1 (by omega) (by omega) q1 q2 (by simpa using q))
def JY (wi:TI)(g:TG)(tb:TS):TS:=fun D σ H=>wi σ H fun J H1=>∃W:Nat->Nat->St->Hp->Prop,(∃m,W 0 m σ H1)/\∀i m σ H,W i m σ H ->
 (J.stop i H/\D.nx σ H)∨(J.go i H/\∃N:St->Hp->Prop,(∀ σ' H',N σ' H'->∃m',m'<m/\W (i+1) m' σ' H')/\∀x H',J.yld i H x H'->g x σ H' fun σ2 H2=>tb { D with nx:=N,ct:=N,bk:=D.nx } σ2 H2)
noncomputable def fw (fp:List Addr)(h:Heap):List (Addr×Obj):=fp.filterMap fun b=>(h.get? b).map fun o=>(b,o)
theorem cK {fp:List Addr}{h:Heap}{b:Addr}{o:Obj}(hb:b∈fp)(e:h.get? b=some o):(b,o)∈fw fp h:=List.mem_filterMap.mpr ⟨b,hb,by rw[e];rfl⟩
theorem qT {fp:List Addr}{h:Heap}{p:Addr×Obj}(hp:p∈fw fp h):p.1∈fp/\h.get? p.1=some p.2:=by
 obtain⟨b,hb,e⟩:=List.mem_filterMap.mp hp
 cases q:h.get? b with
 | none=>rw[q] at e;cases e
 | some o=>
  rw[q] at e
  have e':(b,o)=p:=Option.some.inj e
  subst e'
  exact⟨hb,q⟩
theorem Inv.pinned {pins:List (Addr×Obj)}{σ:St}{H:Hp}{s:Shared}{fp:List Addr}(I:Inv X pins σ H s)(hf:∀b∈fp,dE X pins H b)(ho:∀b∈fp,∃o,s.heap.get? b=some o/\∀v,o.data ≠ .cell v):Inv X (pins++fw fp s.heap) σ H s:=
 I.mI fun p hp=>(Ug.mp hp).elim (fun z=>I.pin p (Jw _ z)) fun z=>by
  obtain⟨hb,e⟩:=qT z
  obtain⟨f0,f1,f2,_⟩:=hf p.1 hb
  obtain⟨o,e',d⟩:=ho p.1 hb
  rw[e] at e';cases e'
  exact⟨e,f0,f1,f2,d⟩
theorem Inv.eC {pins pl:List (Addr×Obj)}{σ:St}{H:Hp}{s:Shared}(I:Inv X (pins++pl) σ H s):Inv X pins σ H s:=I.mI fun p hp=>I.pin p (Jw _ (Yq _ hp))
theorem d7 {iter:Expr}{body:List Stmt}{wi:TI}{g:TG}{tb:TS}{pos:Pos}(hp:PassesOwn (model X.prog X.w) X.A X.env X.xe)(hc:X.calm=true)(hi:PI X tg iter wi)(hg:PG X tg g)(hb:yU X body tb)
  (hs:∀x,foldedSetIterable iter X.env x=pure x:=by intro _;rfl):PS X (.For tg iter body [] pos) (JY wi g tb):=by
 intro pins s σ H D I h
 refine wpAny_For (bg (hi s σ H _ I h) fun v s1 h1=>bg h1 fun MG s2 h2 =>?_) hs
 obtain⟨it,fp,tn,J,H2,e,I2,T,eK,f2,W,⟨m0,w0⟩,turn⟩:=h2
 subst e
 have jH:∀{H':Hp},(∀b∈fp,H' b=none)->∀b∈fp,dE X pins H' b:=fun hn b hb=>⟨hn b hb,(f2 b hb).2⟩
 refine codeAny_forLoop_any (fun n s'=>∃i σ' H',Inv X pins σ' H' s'/\tn i s'.heap/\(∀b∈fp,H' b=none)/\W i n σ' H') ?_ m0 ⟨0,σ,H2,I2,eK,fun b hb=>(f2 b hb).1,w0⟩
 rintro n s3 ⟨i,σ3,H3,I3,dv,fr3,w3⟩
 rcases turn i n σ3 H3 w3 with ⟨stop,qn⟩|⟨go,N,hN,step⟩
 ·refine wpAny_passesOwn hp (bg (T.done X rfl rfl rfl hc i pins s3 σ3 H3 X.xe I3 (jH fr3) dv stop) fun r s4 hz_ =>?_)
  refine ai.el hz_ _ ?_
  clear hz_
  rintro hr I4
  subst hr
  exact wpAny_execs_nil ⟨σ3,H3,I4,qn⟩
 ·refine wpAny_passesOwn hp (bg (T.item X rfl rfl rfl hc i pins s3 σ3 H3 X.xe I3 (jH fr3) dv go) fun r s4 hz_ =>?_)
  refine ai.el hz_ _ ?_
  clear hz_
  rintro u hr h4
  subst hr
  refine wpAny_passesOwn hp (bg h4 fun _ s5 hz_=>ai.el hz_ _ fun x H5 I5 r5 y5 cB fr5 =>?_)
  have L8:=I5.pinned (jH fr5) (T.obj _ _ cB)
  refine wpAny_passesOwn hp (bg (hg s5 σ3 H5 x u _ L8 r5 (step x H5 y5)) fun _ s6 hz_ =>?_)
  refine ai.el hz_ _ ?_
  clear hz_
  rintro σ6 H6 I6 q6
  refine wpAny_passesOwn hp (bg (hb s6 σ6 H6 _ I6 q6) fun f s7 q7 =>?_)
  have again:∀{σ7:St} {H7:Hp},Inv X (pins++fw fp s5.heap) σ7 H7 s7->N σ7 H7->∃m,m<n/\∃i σ' H',Inv X pins σ' H' s7/\tn i s7.heap/\(∀b∈fp,H' b=none)/\W i m σ' H':=fun{σ7 H7} I7 n7=>by
   obtain⟨m',hm,w7⟩:=hN σ7 H7 n7
   refine⟨m',hm,i+1,σ7,H7,I7.eC,T.keep _ _ _ cB fun b hb o e=>(I7.pin (b,o) (Jw _ (Jw _ (cK hb e)))).1,fun b hb =>?_,w7⟩
   obtain⟨o,e,d⟩:=T.obj _ _ cB b hb
   exact(I7.pin (b,o) (Jw _ (Jw _ (cK hb e)))).2.1
  cases f with
  | next=>obtain⟨σ7,H7,I7,n7⟩:=q7;exact again I7 n7
  | cont=>obtain⟨σ7,H7,I7,n7⟩:=q7;exact again I7 n7
  | brk=>obtain⟨σ7,H7,I7,q7⟩:=q7;exact⟨σ7,H7,I7.eC,q7⟩
  | ret v=>obtain⟨x7,σ7,H7,I7,r7,q7⟩:=q7;exact⟨x7,σ7,H7,I7.eC,r7,q7⟩
end
theorem El {K:Ja}{a:Addr}{xs:List V}{g:TG}{tb:TS}{D:Ends}{σ:St}{H:Hp}(Pv:Nat->St->Hp->Prop)(h0:Pv 0 σ H)(hl:∀i σ H,i<=xs.length->Pv i σ H->bb K H a xs)
  (hs:∀i x σ H,xs[i]? = some x->Pv i σ H->g x σ H fun σ2 H2=>tb { D with nx:=Pv (i+1),ct:=Pv (i+1),bk:=D.nx } σ2 H2) (hd:∀ σ H,Pv xs.length σ H->D.nx σ H) :
  ∃W:Nat->Nat->St->Hp->Prop,(∃m,W 0 m σ H)/\∀i m σ H,W i m σ H ->
   ((Np K a).stop i H/\D.nx σ H)∨((Np K a).go i H/\∃N:St->Hp->Prop,(∀ σ' H',N σ' H'->∃m',m'<m/\W (i+1) m' σ' H')/\∀x H',(Np K a).yld i H x H'->g x σ H' fun σ2 H2=>tb { D with nx:=N,ct:=N,bk:=D.nx } σ2 H2):=by
 refine⟨fun i m σ H=>m=xs.length-i/\i<=xs.length/\Pv i σ H,⟨xs.length,by simp,Um _,h0⟩,?_⟩
 rintro i m σ H ⟨rfl,hi,p⟩
 have q:=hl i σ H hi p
 by_cases hW:i<xs.length
 ·refine .inr ⟨⟨xs,xs[i],q,by simp[hW]⟩,Pv (i+1),fun σ' H' p'=>⟨xs.length-(i+1),by omega,rfl,hW,p'⟩,fun x H' y =>?_⟩
  obtain⟨e,y⟩:=y
  subst e
  exact hs i x σ _ (y xs q) p
 ·have e:i=xs.length:=by omega
  subst e
  exact .inl ⟨⟨xs,q,Je _⟩,hd σ H p⟩
theorem eZ {lo:Int}{n:Nat}{g:TG}{tb:TS}{D:Ends}{σ:St}{H:Hp}(Pv:Nat->St->Hp->Prop)(h0:Pv 0 σ H)
  (hs:∀i σ H,i<n->Pv i σ H->g (.int (lo+i)) σ H fun σ2 H2=>tb { D with nx:=Pv (i+1),ct:=Pv (i+1),bk:=D.nx } σ2 H2) (hd:∀ σ H,Pv n σ H->D.nx σ H) :
  ∃W:Nat->Nat->St->Hp->Prop,(∃m,W 0 m σ H)/\∀i m σ H,W i m σ H ->
   ((Ms lo n).stop i H/\D.nx σ H)∨((Ms lo n).go i H/\∃N:St->Hp->Prop,(∀ σ' H',N σ' H'->∃m',m'<m/\W (i+1) m' σ' H')/\∀x H',(Ms lo n).yld i H x H'->g x σ H' fun σ2 H2=>tb { D with nx:=N,ct:=N,bk:=D.nx } σ2 H2):=by
 refine⟨fun i m σ H=>m=n-i/\i<=n/\Pv i σ H,⟨n,by simp,Um _,h0⟩,?_⟩
 rintro i m σ H ⟨rfl,hi,p⟩
 by_cases hW:i<n
 ·refine .inr ⟨hW,Pv (i+1),fun σ' H' p'=>⟨n-(i+1),by omega,rfl,hW,p'⟩,fun x H' y =>?_⟩
  obtain⟨e,y⟩:=y
  subst e y
  exact hs i σ _ hW p
 ·have e:i=n:=by omega
  subst e
  exact .inl ⟨Je _,hd σ H p⟩
abbrev R2:=V->V->Hp->VK->Prop
def dR (X:Cx)(f:Value->Value->Sem Value)(r:R2):Prop:=
 ∀ ⦃pins:List (Addr×Obj)⦄ (s:Shared) (σ:St) (H:Hp) (x y:V) (v u:Value) (Q:VK),Inv X pins σ H s->RelV x v->RelV y u->r x y H Q ->
  wpAny (model X.prog X.w) X.A (f v u) (EP X pins σ Q) X.xe s
def UJ (X:Cx)(f:Value->Sem Value)(r:V->Hp->VK->Prop):Prop:=
 ∀ ⦃pins:List (Addr×Obj)⦄ (s:Shared) (σ:St) (H:Hp) (x:V) (v:Value) (Q:VK),Inv X pins σ H s->RelV x v->r x H Q ->
  wpAny (model X.prog X.w) X.A (f v) (EP X pins σ Q) X.xe s
def bE (X:Cx)(f:Value)(r:List V->Hp->VK->Prop):Prop:=
 ∀ ⦃pins:List (Addr×Obj)⦄ (s:Shared) (σ:St) (H:Hp) (xs:List V) (us:List Value) (Q:VK),Inv X pins σ H s->Vals xs us->r xs H Q ->
  wpAny (model X.prog X.w) X.A (call f us) (EP X pins σ Q) X.xe s
def PY (r:R2)(ta tb:TE):TE:=fun σ H Q=>ta σ H fun x H1=>tb σ H1 fun y H2=>r x y H2 Q
def Wc (r:V->Hp->VK->Prop)(ta:TE):TE:=fun σ H Q=>ta σ H fun x H1=>r x H1 Q
def rI (C:Int->Int->Prop)(g:Int->Int->V):R2:=fun x y H Q=>dS fun i j=>x = .int i/\y = .int j/\C i j/\Q (g i j) H
def IM (g:Int->Int->V):R2:=fun x y H Q=>dS fun i j=>x = .int i/\y = .int j/\Q (g i j) H
def rU (g:Int->V):V->Hp->VK->Prop:=fun x H Q=>∃i,x = .int i/\Q (g i) H
section
variable {X:Cx}{a b c:Expr}{ta tb tc:TE}{pos:Pos}
theorem Ki (ha:PE X a ta)(hb:PE X b tb){pins:List (Addr×Obj)}{s:Shared}{σ:St}{H:Hp}{R:V->V->Hp->Prop}(I:Inv X pins σ H s)
  (h:ta σ H fun x H1=>tb σ H1 fun y H2=>R x y H2) {Q:Value->Shared->Prop} {f:Value->Value->Sem Value}
  (hf:∀v u s2 x y H2,Inv X pins σ H2 s2->RelV x v->RelV y u->R x y H2->wpAny (model X.prog X.w) X.A (f v u) Q X.xe s2) :
  wpAny (model X.prog X.w) X.A (eval a X.env) (fun v s₁=>wpAny (model X.prog X.w) X.A (eval b X.env) (fun u s₂=>wpAny (model X.prog X.w) X.A (f v u) Q X.xe s₂) X.xe s₁) X.xe s:=by
 refine bg (ha s σ H _ I h) fun v s1 hz_ =>?_
 refine ai.el hz_ _ ?_
 clear hz_
 rintro x H1 I1 r1 q1
 refine bg (hb s1 σ H1 _ I1 q1) fun u s2 hz_ =>?_
 refine ai.el hz_ _ ?_
 clear hz_
 rintro y H2 I2 r2 q2
 exact hf v u s2 x y H2 I2 r1 r2 q2
theorem aH {op:Operator}{r:R2}(ho:dR X (binaryOp op) r)(ha:PE X a ta)(hb:PE X b tb):PE X (.BinOp a op b pos) (PY r ta tb):=by
 intro pins s σ H Q I h
 exact wpAny_BinOp (Ki ha hb I h fun v u s2 x y H2 I2 rx ry q=>ho s2 σ H2 x y v u Q I2 rx ry q)
theorem jt {op:UnaryOp}{r:V->Hp->VK->Prop}(ho:UJ X (unaryOp op) r)(ha:PE X a ta):PE X (.UnaryOp op a pos) (Wc r ta):=by
 intro pins s σ H Q I h
 exact UnaryOp_ (bg (ha s σ H _ I h) fun v s1 hz_=>ai.el hz_ _ fun x H1 I1 r1 q1=>ho s1 σ H1 x v Q I1 r1 q1)
theorem MX {f:Value->Value->Sem Value}{C:Int->Int->Prop}{g:Int->Int->Int}
  (rule:∀(i j:Int) (t u:Tok) (s:Shared) (Q:Value->Shared->Prop) (E:Value->Shared->Prop),C i j->Q (.int (g i j) s.toks) { s with toks:=s.toks+1 } -> wpAny (model X.prog X.w) X.A (f (.int i t) (.int j u)) Q E s) :
  dR X f (rI C fun i j =>.int (g i j)):=by
 intro pins s σ H x y v u Q I rx ry h
 obtain⟨i,j,rfl,rfl,hc,q⟩:=h
 obtain⟨t,rfl⟩:=rx
 obtain⟨t',rfl⟩:=ry
 exact rule i j t t' s _ _ hc ⟨.int (g i j),H,I.tok _,⟨_,rfl⟩,q⟩
theorem Kk {f:Value->Value->Sem Value}{g:Int->Int->Int}
  (rule:∀(i j:Int) (t u:Tok) (s:Shared) (Q:Value->Shared->Prop) (E:Value->Shared->Prop),Q (.int (g i j) s.toks) { s with toks:=s.toks+1 } -> wpAny (model X.prog X.w) X.A (f (.int i t) (.int j u)) Q E s) :
  dR X f (IM fun i j =>.int (g i j)):=by
 intro pins s σ H x y v u Q I rx ry h
 obtain⟨i,j,rfl,rfl,q⟩:=h
 obtain⟨t,rfl⟩:=rx
 obtain⟨t',rfl⟩:=ry
 exact rule i j t t' s _ _ ⟨.int (g i j),H,I.tok _,⟨_,rfl⟩,q⟩
theorem LY {f:Value->Value->Sem Value}{g:Int->Int->Bool}
  (rule:∀(i j:Int) (t u:Tok) (s:Shared) (Q:Value->Shared->Prop) (E:Value->Shared->Prop),Q (.bool (g i j)) s->wpAny (model X.prog X.w) X.A (f (.int i t) (.int j u)) Q E s) :
  dR X f (IM fun i j =>.bl (g i j)):=by
 intro pins s σ H x y v u Q I rx ry h
 obtain⟨i,j,rfl,rfl,q⟩:=h
 obtain⟨t,rfl⟩:=rx
 obtain⟨t',rfl⟩:=ry
 exact rule i j t t' s _ _ ⟨.bl (g i j),H,I,rfl,q⟩
def G0 (i j:Int):Prop:=0<j/\j<1073741824
def Ri (i j:Int):Prop:=0<=j/\j<=1000000/\i.natAbs<2^64
def ye (i j:Int):Prop:=(-(2^64)<i/\i<2^64)∨(-(2^64)<j/\j<2^64)
theorem ye.ok {i j:Int}(h:ye i j):IntMulOk i j:=by
 rcases h with ⟨h1,h2⟩|⟨h1,h2⟩
 ·exact .of_left (intBits_le_64 h1 h2)
 ·exact .of_right (intBits_le_64 h1 h2)
theorem Ky:dR X (binaryOp .Add) (IM fun i j =>.int (i+j)):=Kk fun _ _ _ _ _ _ _ q=>add_int q
theorem jz:dR X (binaryOp .Sub) (IM fun i j =>.int (i-j)):=Kk fun _ _ _ _ _ _ _ q=>sub_int q
theorem JS:dR X (binaryOp .Mult) (rI ye fun i j =>.int (i*j)):=MX fun _ _ _ _ _ _ _ hc q=>mul_int q hc.ok
theorem zt:dR X (binaryOp .FloorDiv) (rI G0 fun i j =>.int (i / j)):=MX fun i j _ _ _ _ _ hc q=>by
 have h1:(0:Int)<j:=hc.1
 have h2:j<1073741824:=hc.2
 exact floordiv_int (by omega) (by rw[Int.fdiv_eq_ediv_of_nonneg i (by omega)];exact q) (.inl (PyProof.noPylong_small (by omega)))
theorem iD:dR X (binaryOp .Mod) (rI (fun _ j=>0<j) fun i j =>.int (i%j)):=MX fun i j _ _ _ _ _ hc q=>by
 have h1:(0:Int)<j:=hc
 exact mod_int' (by omega) (by rw[Int.fmod_eq_emod_of_nonneg i (by omega)];exact q)
theorem LB:dR X (binaryOp .Pow) (rI Ri fun i j =>.int (i^j.toNat)):=MX fun _ _ _ _ _ _ _ hc q=>pow_int_small hc.1 hc.2.1 hc.2.2 q
theorem KU:dR X (binaryOp .BitAnd) (IM fun i j =>.int (Builtin.bitAnd i j)):=Kk fun _ _ _ _ _ _ _ q=>and_int q
theorem E4:dR X (inplaceOp .FloorDiv) (rI G0 fun i j =>.int (i / j)):=MX fun i j _ _ _ _ _ hc q=>by
 have h1:(0:Int)<j:=hc.1
 have h2:j<1073741824:=hc.2
 exact ifloordiv_int (by omega) (by rw[Int.fdiv_eq_ediv_of_nonneg i (by omega)];exact q) (.inl (PyProof.noPylong_small (by omega)))
theorem ZH {f:Value->Sem Value}{g:Int->Int}
  (rule:∀(i:Int) (t:Tok) (s:Shared) (Q:Value->Shared->Prop) (E:Value->Shared->Prop),Q (.int (g i) s.toks) { s with toks:=s.toks+1 } -> wpAny (model X.prog X.w) X.A (f (.int i t)) Q E s) :
  UJ X f (rU fun i =>.int (g i)):=by
 intro pins s σ H x v Q I rx h
 obtain⟨i,rfl,q⟩:=h
 obtain⟨t,rfl⟩:=rx
 exact rule i t s _ _ ⟨.int (g i),H,I.tok _,⟨_,rfl⟩,q⟩
theorem fX:UJ X (unaryOp .USub) (rU fun i =>.int (-i)):=ZH fun _ _ _ _ _ q=>neg_int q
end
noncomputable def NN:V->V->Bool
 | .non,.non=>true | .non,.int _=>true | .int _,.non=>true | .non,.bl _=>true | .bl _,.non=>true | .non,.str _=>true | .str _,.non=>true
 | .int _,.int _=>true | .bl _,.bl _=>true | .str _,.str _=>true | .byt _,.byt _=>true
 | .int _,.str _=>true | .str _,.int _=>true | .bl _,.str _=>true | .str _,.bl _=>true
 | _,_=>false
def TZ:R2:=fun x y H Q=>NN x y=true/\Q (.bl (decide (x=y))) H
def Rb:R2:=fun x y H Q=>NN x y=true/\Q (.bl (!decide (x=y))) H
theorem yV {i j:Int}:decide (V.int i=V.int j)=(i==j):=by
 rw[Y4]
 simp
theorem CY {i j:Bool}:decide (V.bl i=V.bl j)=(i==j):=by
 rw[Y4]
 simp
theorem y7 {i j:Str}:decide (V.str i=V.str j)=(i==j):=by
 rw[Y4]
 simp
theorem zH {i j:Array UInt8}:decide (V.byt i=V.byt j)=(i.toList==j.toList):=by
 rw[Y4]
 cases i
 cases j
 simp
section
variable {X:Cx}{a b c:Expr}{ta tb tc:TE}{pos:Pos}
theorem bj {pins:List (Addr×Obj)}{σ:St}{H:Hp}{s:Shared}{Q:VK}{k k':Bool}(I:Inv X pins σ H s)(q:Q (.bl k) H)(e:k=k'):EP X pins σ Q (.bool k') s:=by
 subst e
 exact⟨.bl k,H,I,rfl,q⟩
theorem NL:dR X (compareOp .Eq) TZ:=by
 intro pins s σ H x y v u Q I rx ry h
 obtain⟨hs,q⟩:=h
 cases x with
 | non=>
  cases rx
  cases y with
  | non=>cases ry;exact PySem.EqNone.eq_none_none (bj I q (by simp))
  | bl j=>cases ry;exact PySem.EqNone.eq_none_bool (bj I q (by simp))
  | int j=>obtain⟨t',rfl⟩:=ry;exact PySem.EqNone.eq_none_int (bj I q (by simp))
  | str j=>obtain⟨t',rfl⟩:=ry;exact PySem.EqNone.eq_none_str (bj I q (by simp))
  | _=>exact absurd (show false=true from hs) Jl
 | bl i=>
  cases rx
  cases y with
  | non=>cases ry;exact PySem.EqNone.eq_bool_none (bj I q (by simp))
  | bl j=>cases ry;exact eq_bool (bj I q CY)
  | str j=>obtain⟨t',rfl⟩:=ry;exact PySem.EqMixed.eq_bool_str (bj I q (by simp))
  | _=>exact absurd (show false=true from hs) Jl
 | int i=>
  obtain⟨t,rfl⟩:=rx
  cases y with
  | non=>cases ry;exact PySem.EqNone.eq_int_none (bj I q (by simp))
  | int j=>obtain⟨t',rfl⟩:=ry;exact eq_int (bj I q yV)
  | str j=>obtain⟨t',rfl⟩:=ry;exact PySem.EqMixed.eq_int_str (bj I q (by simp))
  | _=>exact absurd (show false=true from hs) Jl
 | str i=>
  obtain⟨t,rfl⟩:=rx
  cases y with
  | non=>cases ry;exact PySem.EqNone.eq_str_none (bj I q (by simp))
  | bl j=>cases ry;exact PySem.EqMixed.eq_str_bool (bj I q (by simp))
  | int j=>obtain⟨t',rfl⟩:=ry;exact PySem.EqMixed.eq_str_int (bj I q (by simp))
  | str j=>obtain⟨t',rfl⟩:=ry;exact eq_str (bj I q y7)
  | _=>exact absurd (show false=true from hs) Jl
 | byt i=>
  obtain⟨t,rfl⟩:=rx
  cases y with
  | byt j=>obtain⟨t',rfl⟩:=ry;exact PySem.W.eq_bytes (bj I q zH)
  | _=>exact absurd (show false=true from hs) Jl
 | _=>cases y<;>exact absurd (show false=true from hs) Jl
theorem PL:dR X (compareOp .NotEq) Rb:=by
 intro pins s σ H x y v u Q I rx ry h
 obtain⟨hs,q⟩:=h
 cases x with
 | non=>
  cases rx
  cases y with
  | non=>cases ry;exact PySem.EqNone.ne_none_none (bj I q (by simp))
  | bl j=>cases ry;exact PySem.EqNone.ne_none_bool (bj I q (by simp))
  | int j=>obtain⟨t',rfl⟩:=ry;exact PySem.EqNone.ne_none_int (bj I q (by simp))
  | str j=>obtain⟨t',rfl⟩:=ry;exact PySem.EqNone.ne_none_str (bj I q (by simp))
  | _=>exact absurd (show false=true from hs) Jl
 | bl i=>
  cases rx
  cases y with
  | non=>cases ry;exact PySem.EqNone.ne_bool_none (bj I q (by simp))
  | bl j=>cases ry;exact ne_bool (bj I q (congrArg not CY))
  | str j=>obtain⟨t',rfl⟩:=ry;exact PySem.EqMixed.ne_bool_str (bj I q (by simp))
  | _=>exact absurd (show false=true from hs) Jl
 | int i=>
  obtain⟨t,rfl⟩:=rx
  cases y with
  | non=>cases ry;exact PySem.EqNone.ne_int_none (bj I q (by simp))
  | int j=>obtain⟨t',rfl⟩:=ry;exact ne_int (bj I q (congrArg not yV))
  | str j=>obtain⟨t',rfl⟩:=ry;exact PySem.EqMixed.ne_int_str (bj I q (by simp))
  | _=>exact absurd (show false=true from hs) Jl
 | str i=>
  obtain⟨t,rfl⟩:=rx
  cases y with
  | non=>cases ry;exact PySem.EqNone.ne_str_none (bj I q (by simp))
  | bl j=>cases ry;exact PySem.EqMixed.ne_str_bool (bj I q (by simp))
  | int j=>obtain⟨t',rfl⟩:=ry;exact PySem.EqMixed.ne_str_int (bj I q (by simp))
  | str j=>obtain⟨t',rfl⟩:=ry;exact ne_str (bj I q (congrArg not y7))
  | _=>exact absurd (show false=true from hs) Jl
 | byt i=>
  obtain⟨t,rfl⟩:=rx
  cases y with
  | byt j=>obtain⟨t',rfl⟩:=ry;exact PySem.W.ne_bytes (bj I q (congrArg not zH))
  | _=>exact absurd (show false=true from hs) Jl
 | _=>cases y<;>exact absurd (show false=true from hs) Jl
theorem l6:dR X (compareOp .Lt) (IM fun i j =>.bl (decide (i<j))):=LY fun _ _ _ _ _ _ _ q=>lt_int q
theorem my:dR X (compareOp .LtE) (IM fun i j =>.bl (decide (i<=j))):=LY fun _ _ _ _ _ _ _ q=>le_int q
theorem Ip:dR X (compareOp .GtE) (IM fun i j =>.bl (decide (j<=i))):=LY fun _ _ _ _ _ _ _ q=>ge_int q
theorem Ka:dR X (compareOp .Is) (fun x y H Q=>y = .non/\Q (.bl (decide (x = .non))) H):=by
 intro pins s σ H x y v u Q I rx ry h
 obtain⟨rfl,q⟩:=h
 cases ry
 refine is_none_gen (bj I q ?_)
 cases x<;>first
  | (cases rx;rfl)
  | (obtain⟨t,rfl⟩:=rx;rfl)
theorem HC:dR X (compareOp .IsNot) (fun x y H Q=>y = .non/\Q (.bl (!decide (x = .non))) H):=by
 intro pins s σ H x y v u Q I rx ry h
 obtain⟨rfl,q⟩:=h
 cases ry
 refine isnot_none_gen (bj I q ?_)
 cases x<;>first
  | (cases rx;rfl)
  | (obtain⟨t,rfl⟩:=rx;rfl)
theorem dR.or {f:Value->Value->Sem Value}{r r':R2}(h:dR X f r)(h':dR X f r'):dR X f (fun x y H Q=>r x y H Q∨r' x y H Q):=by
 intro pins s σ H x y v u Q I rx ry q
 rcases q with q|q
 ·exact h s σ H x y v u Q I rx ry q
 ·exact h' s σ H x y v u Q I rx ry q
theorem aV (b:Expr){op:CmpOp}(h:op ≠ .In:=by decide)(h2:op ≠ .NotIn:=by decide):behindInMarks op b=false:=by
 have e1:(op==CmpOp.In)=false:=by cases op<;>first|rfl|exact absurd rfl h
 have e2:(op==CmpOp.NotIn)=false:=by cases op<;>first|rfl|exact absurd rfl h2
 cases b<;>simp[behindInMarks,e1,e2]
theorem cQ {op:CmpOp}{r:R2}(ho:dR X (compareOp op) r)(ha:PE X a ta)(hb:PE X b tb)(hm:behindInMarks op b=false):PE X (.Compare a [op] [b] pos) (PY r ta tb):=by
 intro pins s σ H Q I h
 exact wpAny_Compare1 (Ki ha hb I h fun v u s2 x y H2 I2 rx ry q=>ho s2 σ H2 x y v u Q I2 rx ry q) hm
def IU (t:TE):TT:=fun σ H Q=>t σ H fun x H'=>∃k,x = .bl k/\Q k H'
theorem aQ {op:CmpOp}{r:R2}(ho:dR X (compareOp op) r)(ha:PE X a ta)(hb:PE X b tb)(hm:behindInMarks op b=false):PT X (.Compare a [op] [b] pos) (IU (PY r ta tb)):=by
 intro pins s σ H Q I h
 refine wpAny_isTrue_Compare1 (bg (ha s σ H _ I h) fun v s1 hz_=>ai.el hz_ _ fun x H1 I1 r1 q1=>bg (hb s1 σ H1 _ I1 q1) fun u s2 ⟨y,H2,I2,r2,q2⟩=>
  bg (ho s2 σ H2 x y v u _ I2 r1 r2 q2) fun c s3 ⟨z,H3,I3,r3,k,e,q3⟩=>?_) hm
 subst e
 cases r3
 exact wpAny_truthy_bool ⟨H3,I3,q3⟩
def DD (r r':R2)(ta tb tc:TE):TE:=fun σ H Q=>ta σ H fun x H1=>tb σ H1 fun y H2=>r x y H2 fun z H3=>∃k,z = .bl k /\
 (if k=true then tc σ H3 fun w' H4=>r' y w' H4 Q else Q (.bl false) H3)
theorem uP {op Lr:CmpOp}{r r':R2}(ho:dR X (compareOp op) r)(yI:dR X (compareOp Lr) r')(ha:PE X a ta)(hb:PE X b tb)(hc:PE X c tc)
  (hm:lastMarks [op,Lr] [b,c]=false:=by with_unfolding_all rfl):PE X (.Compare a [op,Lr] [b,c] pos) (DD r r' ta tb tc):=by
 intro pins s σ H Q I h
 refine Compare_chain (bg (ha s σ H _ I h) fun v s1 hz_=>ai.el hz_ _ fun x H1 I1 r1 q1=>chain_link (bg (hb s1 σ H1 _ I1 q1) fun u s2 ⟨y,H2,I2,r2,q2⟩=>
  bg (ho s2 σ H2 x y v u _ I2 r1 r2 q2) fun d s3 ⟨z,H3,I3,r3,k,e,q3⟩=>?_)) hm
 subst e
 cases r3
 refine wpAny_truthy_bool ?_
 cases k with
 | false=>exact ite_ff ⟨.bl false,H3,I3,rfl,q3⟩
 | true=>exact ite_tt (chain_last (bg (hc s3 σ H3 _ I3 q3) fun w' s4 hz_=>ai.el hz_ _ fun z' H4 I4 r4 q4=>yI s4 σ H4 y z' u w' Q I4 r2 r4 q4))
theorem vn {op Lr:CmpOp}{r r':R2}(ho:dR X (compareOp op) r)(yI:dR X (compareOp Lr) r')(ha:PE X a ta)(hb:PE X b tb)(hc:PE X c tc)
  (hm:lastMarks [op,Lr] [b,c]=false:=by with_unfolding_all rfl):PT X (.Compare a [op,Lr] [b,c] pos) (IU (DD r r' ta tb tc)):=by
 intro pins s σ H Q I h
 refine isTrue_chain (bg (ha s σ H _ I h) fun v s1 hz_=>ai.el hz_ _ fun x H1 I1 r1 q1=>test_link (bg (hb s1 σ H1 _ I1 q1) fun u s2 ⟨y,H2,I2,r2,q2⟩=>
  bg (ho s2 σ H2 x y v u _ I2 r1 r2 q2) fun d s3 ⟨z,H3,I3,r3,k,e,q3⟩=>?_)) hm
 subst e
 cases r3
 refine wpAny_truthy_bool ?_
 cases k with
 | false=>
  obtain⟨k',e',q'⟩:=q3
  cases e'
  exact ite_ff ⟨H3,I3,q'⟩
 | true=>
  refine ite_tt (test_last (bg (hc s3 σ H3 _ I3 q3) fun w' s4 hz_=>ai.el hz_ _ fun z' H4 I4 r4 q4=>bg (yI s4 σ H4 y z' u w' _ I4 r2 r4 q4) fun d' s5 hz_ =>?_))
  refine ai.el hz_ _ ?_
  clear hz_
  rintro z2 H5 I5 r5 ⟨k2,e2,q5⟩
  subst e2
  cases r5
  exact wpAny_truthy_bool ⟨H5,I5,q5⟩
theorem oy:(sizeLine:Nat)<2^63:=by rw[sizeLine_eq];decide
theorem xV:dR X (binaryOp .Add) (fun x y H Q=>∃i j,x = .str i/\y = .str j/\i.length+j.length<=sizeLine/\Q (.str (i++j)) H):=by
 intro pins s σ H x y v u Q I rx ry h
 obtain⟨i,j,rfl,rfl,hz,q⟩:=h
 obtain⟨t,rfl⟩:=rx
 obtain⟨t',rfl⟩:=ry
 exact add_str (fun t' tk=>⟨.str (i++j),H,I.tok _,⟨_,rfl⟩,q⟩) hz
theorem vals1 {x:V}{us:List Value}(r:Vals [x] us):∃u,us=[u]/\RelV x u:=by
 cases r with
 | cons r1 r2=>cases r2;exact⟨_,rfl,r1⟩
theorem vals2 {x y:V}{us:List Value}(r:Vals [x,y] us):∃u w',us=[u,w']/\RelV x u/\RelV y w':=by
 cases r with
 | cons r1 r2=>
  cases r2 with
  | cons r3 r4=>cases r4;exact⟨_,_,rfl,r1,r3⟩
theorem qw (hc:X.calm=true):bE X (.builtin "max") (fun xs H Q=>∃i j,xs=[.int i,.int j]/\Q (.int (if j>i then j else i)) H):=by
 intro pins s σ H xs us Q I r h
 obtain⟨i,j,rfl,q⟩:=h
 obtain⟨u,w',rfl,⟨t,rfl⟩,⟨t',rfl⟩⟩:=vals2 r
 refine max_two_ints (I.ok.hd hc) fun h' tk k=>⟨_,H,I.kept k,?_,q⟩
 by_cases hj:j>i
 ·rw[if_pos hj,if_pos hj];exact⟨_,rfl⟩
 ·rw[if_neg hj,if_neg hj];exact⟨_,rfl⟩
theorem AQ (hc:X.calm=true):bE X (.builtin "min") (fun xs H Q=>∃i j,xs=[.int i,.int j]/\Q (.int (if j<i then j else i)) H):=by
 intro pins s σ H xs us Q I r h
 obtain⟨i,j,rfl,q⟩:=h
 obtain⟨u,w',rfl,⟨t,rfl⟩,⟨t',rfl⟩⟩:=vals2 r
 refine min_two_ints (I.ok.hd hc) fun h' tk k=>⟨_,H,I.kept k,?_,q⟩
 by_cases hj:j<i
 ·rw[if_pos hj,if_pos hj];exact⟨_,rfl⟩
 ·rw[if_neg hj,if_neg hj];exact⟨_,rfl⟩
theorem qP:bE X (.type "int") (fun xs H Q=>(∃i,xs=[.int i]/\Q (.int i) H)∨∃k,xs=[.bl k]/\Q (.int (if k then 1 else 0)) H):=by
 intro pins s σ H xs us Q I r h
 rcases h with ⟨i,rfl,q⟩|⟨k,rfl,q⟩
 ·obtain⟨u,rfl,t,rfl⟩:=vals1 r
  exact call_int_int ⟨.int i,H,I,⟨_,rfl⟩,q⟩
 ·obtain⟨u,rfl,r1⟩:=vals1 r
  cases r1
  exact call_int_bool ⟨.int (if k then 1 else 0),H,I.tok _,⟨_,rfl⟩,q⟩
theorem kO:bE X (.type "str") (fun xs H Q=>∃i,xs=[.int i]/\i.natAbs.log2<1920/\Q (.str (toString i)) H):=by
 intro pins s σ H xs us Q I r h
 obtain⟨i,rfl,hz,q⟩:=h
 obtain⟨u,rfl,t,rfl⟩:=vals1 r
 exact PySem.P.str_of_int hz ⟨.str _,H,I.tok _,⟨_,rfl⟩,q⟩
def Po (K:Ja)(x:V)(H:Hp)(n:Nat):Prop:=
 match x with
 | .str y=>y.length<=sizeLine/\n=y.length
 | .byt y=>y.size<=sizeLine/\n=y.size
 | .ref p=>(∃xs,bb K H p xs/\n=xs.length)∨∃xs,br K H p xs/\n=xs.length
 | _=>False
theorem CL:bE X (.builtin "len") (fun xs H Q=>∃x n,xs=[x]/\Po X.K x H n/\Q (.int n) H):=by
 intro pins s σ H xs us Q I r h
 obtain⟨x,n,rfl,e,q⟩:=h
 obtain⟨u,rfl,rx⟩:=vals1 r
 have hl:=oy
 have hs:sizeLine=16777216:=sizeLine_eq
 cases x with
 | str y=>
  obtain⟨t,rfl⟩:=rx
  obtain⟨hy,e'⟩:y.length<=sizeLine/\n=y.length:=e
  subst e'
  exact len_str (by omega) ⟨.int _,H,I.tok _,⟨_,rfl⟩,q⟩
 | byt y=>
  obtain⟨t,rfl⟩:=rx
  obtain⟨hy,e'⟩:y.size<=sizeLine/\n=y.size:=e
  subst e'
  exact PySem.W.len_bytes (by omega) ⟨.int _,H,I.tok _,⟨_,rfl⟩,q⟩
 | ref p=>
  cases rx
  have e':(∃xs,bb X.K H p xs/\n=xs.length)∨∃xs,br X.K H p xs/\n=xs.length:=e
  rcases e' with ⟨xs,hx,e'⟩|⟨xs,hx,e'⟩
  ·subst e'
   obtain⟨au,r',pl,hz⟩:=I.list hx
   have hlen:=r'.length
   exact Calls.call_len_list pl.isList (by simp only[Js];omega) ⟨.int xs.length,H,I.tok _,⟨_,by simp only[Js];rw[hlen]⟩,q⟩
  ·subst e'
   obtain⟨au,r',pl,hz⟩:=I.tuple hx
   have hlen:=r'.length
   exact len_tuple pl (by simp only[Js];omega) ⟨.int xs.length,H,I.tok _,⟨_,by simp only[Js];rw[hlen]⟩,q⟩
 | _=>exact(show False from e).elim
theorem uS:bE X (.builtin "divmod") (fun xs H Q=>∃i j,xs=[.int i,.int j]/\G0 i j/\∀p,H p=none->Q (.ref p) (upd H p (.tup [.int (i / j),.int (i%j)]))):=by
 intro pins s σ H xs us Q I r h
 obtain⟨i,j,rfl,⟨h1,h2⟩,q⟩:=h
 obtain⟨u,w',rfl,⟨t,rfl⟩,⟨t',rfl⟩⟩:=vals2 r
 refine divmod_int (by omega) ?_ (.inl (PyProof.noPylong_small (by omega)))
 rw[Int.fdiv_eq_ediv_of_nonneg i (by omega),Int.fmod_eq_emod_of_nonneg i (by omega)]
 have hn:H s.heap.objs.size=none:=I.bC.fresh (Je _)
 refine⟨.ref s.heap.objs.size,_,?_,rfl,q _ hn⟩
 refine I.laid (fun b o e=>Jb _ e) (Je _) ⟨by simp only[Jn,Y5];rw[sizeLine_eq];decide,[.int (i / j) s.toks,.int (i%j) (s.toks+1)],.cons ⟨_,rfl⟩ (.cons ⟨_,rfl⟩ .nil),?_⟩
 exact⟨_,Jk s.heap rfl,rfl,rfl,0,rfl⟩
end
structure Aa (h:Heap)(x dx C:Addr)(mA:Str->Option Value):Prop where
 obj:h.get? x=some (Yw C dx)
 ns:h.Ns1 dx mA
 ne:dx≠x
theorem AU {h:Heap}{dx:Addr}{mA:Str->Option Value}(n:h.Ns1 dx mA):∃od,h.get? dx=some od/\∀name,PySem.W.lookIn name od=some (mA name):=by
 obtain⟨o,es,ep,ho,hd,hk,_,hm⟩:=n
 refine⟨o,ho,fun name =>?_⟩
 have e:=hm name
 unfold nsFind findBy at e
 rw[<-Array.find?_toList] at e
 unfold PySem.W.lookIn
 rw[hd]
 dsimp only
 split
 ·rename_i y q
  rw[q] at e
  exact congrArg some e
 ·rename_i q
  rw[q] at e
  have a:es.toList.any (·.refKey)=false:=by
   rw[List.any_eq_false]
   intro y hy
   obtain⟨z,t,hkey⟩:=hk y (Array.mem_toList_iff.mp hy)
   simp[DictEntry.refKey,hkey]
  have a':¬es.toList.any (·.refKey)=true:=by rw[a];exact Jl
  rw[if_neg a']
  exact congrArg some e
theorem Aa.look {h:Heap}{x dx C:Addr}{mA:Str->Option Value}(I:Aa h x dx C mA):∃od,PySem.W.InstAt h x (Yw C dx) C (some od)/\∀name,PySem.W.lookIn name od=some (mA name):=
 let ⟨od,ho,hl⟩:=AU I.ns
 ⟨od,⟨I.obj,rfl,rfl,ho⟩,hl⟩
section
variable {prog:Program}{w:World}{A:Around}{E:Value->Shared->Prop}{s:Shared}{K:Ja}{x dx C f:Addr}{mA:Str->Option Value}{name:Str}{v:Value}
theorem get_map {expr:Bool}{Q:Value->Shared->Prop}(X:K.In s.heap)(I:Aa s.heap x dx C mA)(hg:PySem.W.plainGet K C name=true)(hh:PySem.W.hasDictIn K C=true)
  (ha:Ua K (.ref C) name=some none) (hv:mA name=some v) (VG:PySem.W.handedIn v=true) (h:Q v { s with toks:=s.toks+1 }) :
  wpAny (model prog w) A (getAttr (.ref x) name expr) Q E s:=by
 obtain⟨od,J,hl⟩:=I.look
 exact PySem.W.get_value X J (PySem.W.plainGet_of hg).1 (PySem.W.findObj_own hh ha rfl (by rw[hl,hv])) VG h
theorem Gg {ns:List Str}{Q:Unit->Shared->Prop}(X:K.In s.heap)(I:Aa s.heap x dx C mA)
  (hs:Ua K (.ref C) "__setattr__" = some (some (.builtin "object.__setattr__"))) (hp:PySem.W.plainOver K C=true) (ht:PySem.W.takerIn K C name=some none) (hh:PySem.W.hasDictIn K C=true)
  (hw:PySem.Within mA ns) (hsz:ns.length<=sizeLine)
  (h:∀h',Aa h' x dx C (fun y=>if y=name then some v else mA y)->Uz dx s.heap h'->Q () { s with heap:=h',toks:=s.toks+2 }) :
  wpAny (model prog w) A (setAttr (.ref x) name v) Q E s:=by
 obtain⟨od,J,hl⟩:=I.look
 refine PySem.W.set_plain X J hs (PySem.W.osa_open (s:={ s with toks:=s.toks+1 }) (r:=none) X J hp ht fun b =>?_)
 obtain⟨cd,hc,C2⟩:=PySem.W.any_some hh
 have hx:s.heap.get? x=some ⟨.ref C,some dx,.plain,#[]⟩:=I.obj
 refine wpAny_bind (wpAny_pure (wpAny_bind (wpAny_bind (wpAny_loadPart hx (wpAny_bind (PySem.W.Looks.here (s:={ s with toks:=s.toks+1 }) (PySem.W.looks_clsIn X hc) ?_))))))
 rw[C2]
 refine wpAny_pure (a:=some dx) (wpAny_bind (wpAny_pure (wpAny_bind ?_)))
 refine wpAny_nsSet1 (s:={ s with toks:=s.toks+1 }) I.ns fun h' Ld yS =>?_
 obtain⟨oD,esD,epD,hoD,hdD,hcD⟩:=Ld.count (PySem.Within.cons name v hw)
 refine wpAny_bind (wpAny_lookBehind hoD (by rw[hdD];exact pastItsLine_dict (Jh hcD (by rw[Jn];omega))) ?_)
 exact wpAny_pure (h _ ⟨(yS.2 _ (Ne.symm I.ne)).trans I.obj,Ld,I.ne⟩ yS)
theorem Dy {R:Result->Shared->Prop}{vs:List Value}{kw:List (Str×Value)}(X:K.In s.heap)(hm:PySem.W.makesIn K C=true)
  (hi:Ua K (.ref C) "__init__" = some (some (.ref f))) (hf:PySem.W.typeIn K (.ref f)=some (.type "function"))
  (h:codeAny (model prog w) (A.under (.builtin "type.__call__" ⟨.ref C::vs,kw⟩)) (.call (.ref f) ⟨.ref (s.heap.objs.size+1)::vs,kw⟩) (PySem.W.InitBack (s.heap.objs.size+1) R)
   { s with heap:=(s.heap.push U7).push (Yw C s.heap.objs.size) }) :
  codeAny (model prog w) A (.call (.ref C) ⟨vs,kw⟩) R s:=by
 obtain⟨hh,g,d,t,os⟩:=s
 exact PySem.W.make_core (PySem.W.makes_of X hm) (PySem.W.looks_findIn X hi) (fun self=>PySem.W.bind_fn X self hf) (.inl rfl) h
end
noncomputable def ji (f:Str)(v:V):List (Str×V)->List (Str×V)
 | []=>[(f,v)]
 | (g,x)::r=>if g=f then (g,v)::r else (g,x)::ji f v r
theorem mh (f g:Str)(v:V):∀fs:List (Str×V),(ji f v fs).lookup g=if g=f then some v else fs.lookup g
 | []=>by
  show Y0 g [(f,v)]=_
  by_cases h:g=f
  ·have hb:(g==f)=true:=beq_iff_eq.mpr h
   simp only[Y0,hb,if_pos h]
  ·have hb:(g==f)=false:=beq_eq_false_iff_ne.mpr h
   simp only[Y0,hb,if_neg h]
 | (k,x)::r=>by
  have ih:=mh f g v r
  rw[show ji f v ((k,x)::r)=(if k=f then (k,v)::r else (k,x)::ji f v r) from rfl]
  by_cases hk:k=f
  ·rw[if_pos hk]
   by_cases h:g=k
   ·have hb:(g==k)=true:=beq_iff_eq.mpr h
    simp only[Y0,hb,if_pos (h.trans hk)]
   ·have hb:(g==k)=false:=beq_eq_false_iff_ne.mpr h
    simp only[Y0,hb,if_neg (fun e:g=f=>h (e.trans hk.symm))]
  ·rw[if_neg hk]
   by_cases h:g=k
   ·have hb:(g==k)=true:=beq_iff_eq.mpr h
    simp only[Y0,hb,if_neg (fun e:g=f=>hk (h.symm.trans e))]
   ·have hb:(g==k)=false:=beq_eq_false_iff_ne.mpr h
    simp only[Y0,hb]
    exact ih
theorem lC (f:Str)(v:V):∀fs:List (Str×V),f∈(ji f v fs).map (·.1)/\∀g,g∈fs.map (·.1)->g∈(ji f v fs).map (·.1)
 | []=>⟨by simp[ji],fun g h=>by simp at h⟩
 | (k,x)::r=>by
  obtain⟨i1,i2⟩:=lC f v r
  rw[show ji f v ((k,x)::r)=(if k=f then (k,v)::r else (k,x)::ji f v r) from rfl]
  by_cases hk:k=f
  ·rw[if_pos hk]
   subst hk
   exact⟨by simp,fun g h=>by simpa using h⟩
  ·rw[if_neg hk]
   refine⟨?_,fun g h =>?_⟩
   ·rw[J0]
    exact Jo _ i1
   ·rw[J0] at h ⊢
    rcases Jv.mp h with e|e
    ·exact Jv.mpr (.inl e)
    ·exact Jo _ (i2 g e)
theorem lZ (f:Str)(v:V):∀fs:List (Str×V),(ji f v fs).length<=fs.length+1
 | []=>by simp[ji]
 | (k,x)::r=>by
  have ih:=lZ f v r
  rw[show ji f v ((k,x)::r)=(if k=f then (k,v)::r else (k,x)::ji f v r) from rfl]
  by_cases hk:k=f
  ·rw[if_pos hk,Jn,Jn];omega
  ·rw[if_neg hk,Jn,Jn];omega
theorem kf.rY {v:V}{o:Option Value}(r:kf (some v) o):∃u,o=some u/\RelV v u:=by
 cases o with
 | none=>exact(show False from r).elim
 | some u=>exact⟨u,rfl,r⟩
theorem Aw {v:V}{u:Value}(r:RelV v u):PySem.W.handedIn u=true:=by
 cases v with
 | non=>cases (show u=Value.none from r);rfl
 | bl b=>cases (show u=Value.bool b from r);rfl
 | int i=>obtain⟨t,e⟩:=(show ∃t,u=Value.int i t from r);cases e;rfl
 | str x=>obtain⟨t,e⟩:=(show ∃t,u=Value.str x t from r);cases e;rfl
 | byt b=>obtain⟨t,e⟩:=(show ∃t,u=Value.bytes b t from r);cases e;rfl
 | flt b=>obtain⟨t,e⟩:=(show ∃t,u=Value.float b t from r);cases e;rfl
 | ref a=>cases (show u=Value.ref a from r);rfl
 | ty n=>cases (show u=Value.type n from r);rfl
section
variable {P:Program}{w:World}{H H':Hp}{h h':Heap}{a C dx:Addr}{fs Qc:List (Str×V)}
theorem rE (bC:gV P w H h)(e:H a=some (.ins C dx fs)):∃mA,Aa h a dx C mA/\(∀f,kf (fs.lookup f) (mA f))/\PySem.Within mA (fs.map (·.1))/\fs.length<=1000/\H dx=some (.own a):=by
 obtain⟨d,z,ne,ob,mA,n,r,q⟩:=(show bz P w H h a (.ins C dx fs) from bC a _ e)
 exact⟨mA,⟨ob,n,ne⟩,r,q,z,d⟩
end
structure IK (K:Ja)(C:Addr):Prop where
 pg:PySem.W.plainGet K C Str.empty=true
 hd:PySem.W.hasDictIn K C=true
 po:PySem.W.plainOver K C=true
 sa:Ua K (.ref C) "__setattr__" = some (some (.builtin "object.__setattr__"))
theorem IK.get {K:Ja}{C:Addr}(c:IK K C)(f:Str):PySem.W.plainGet K C f=true:=c.pg
def fC (K:Ja)(C:Addr)(f:Str):Prop:=Ua K (.ref C) f=some none
theorem fC.PB {K:Ja}{C:Addr}{f:Str}(n:fC K C f):PySem.W.takerIn K C f=some none:=by
 unfold PySem.W.takerIn
 rw[show Ua K (.ref C) f=some none from n]
 rfl
section
variable {X:Cx}{pins:List (Addr×Obj)}{σ:St}{H:Hp}{s:Shared}{a C dx:Addr}{fs:List (Str×V)}{f:Str}{v:V}{A:Around}{E:Value->Shared->Prop}
theorem wz {b:Bool}{Q:Value->Shared->Prop}(I:Inv X pins σ H s)(e:H a=some (.ins C dx fs))(c:IK X.K C)(n:fC X.K C f)(l:fs.lookup f=some v)
  (h:∀u s',Inv X pins σ H s'->RelV v u->Q u s'):wpAny (model X.prog X.w) A (getAttr (.ref a) f b) Q E s:=by
 obtain⟨mA,O,r,_,_,_⟩:=rE I.bC e
 obtain⟨u,hu,ru⟩:=kf.rY (v:=v) (o:=mA f) (by rw[<-l];exact r f)
 exact get_map I.je O (c.get f) c.hd n hu (Aw ru) (h u _ (I.tok _) ru)
theorem yg {y:V}{u:Value}{Q:Unit->Shared->Prop}(I:Inv X pins σ H s)(e:H a=some (.ins C dx fs))(c:IK X.K C)(n:fC X.K C f)(hl:fs.length<1000)(ry:RelV y u)
  (h:∀s',Inv X pins σ (upd H a (.ins C dx (ji f y fs))) s'->Q () s'):wpAny (model X.prog X.w) A (setAttr (.ref a) f u) Q E s:=by
 obtain⟨mA,O,r,wi,_,ho⟩:=rE I.bC e
 have hz:(fs.map (·.1)).length<=sizeLine:=by rw[Jc,sizeLine_eq];omega
 refine Gg I.je O c.sa c.po n.PB c.hd wi hz fun h' O' sb=>h _ ?_
 have hd:∃o,h'.get? dx=some o:=let ⟨o,_,_,e',_⟩:=O'.ns; ⟨o,e'⟩
 refine I.write (x:=a) (e:=dx) (by rw[e];exact True.intro) (.inr ho) (fun b q hb z=>(sb.2 b hb).trans z) hd ?_
 refine⟨by rw[ak O.ne];exact ho,?_,O.ne,O'.obj,_,O'.ns,fun g =>?_,fun g hg =>?_⟩
 ·have:=lZ f y fs;omega
 ·show kf ((ji f y fs).lookup g) (if g=f then some u else mA g)
  rw[mh]
  by_cases q:g=f
  ·rw[if_pos q,if_pos q];exact ry
  ·rw[if_neg q,if_neg q];exact r g
 ·by_cases q:g=f
  ·rw[q];exact(lC f y fs).1
  ·refine(lC f y fs).2 g (wi g fun z=>hg ?_)
   show(if g=f then some u else mA g)=none
   rw[if_neg q];exact z
theorem Inv.made (I:Inv X pins σ H s):Inv X pins σ (upd (upd H s.heap.objs.size (.own (s.heap.objs.size+1))) (s.heap.objs.size+1) (.ins C s.heap.objs.size []))
  { s with heap:=(s.heap.push U7).push (Yw C s.heap.objs.size) }:=by
 have e1:(s.heap.push U7).get? s.heap.objs.size=some U7:=Jk s.heap rfl
 have e2:((s.heap.push U7).push (Yw C s.heap.objs.size)).get? (s.heap.objs.size+1)=some (Yw C s.heap.objs.size):=by
  have:=Jk (s.heap.push U7) (o:=Yw C s.heap.objs.size) rfl
  rwa[J8] at this
 have e3:(s.heap.push U7).Ns s.heap.objs.size (fun _=>none):=⟨U7,#[],_,e1,rfl,(fun e he=>absurd he (by simp)),fun _=>rfl⟩
 have I1:=I.laid (a:=s.heap.objs.size) (o := .own (s.heap.objs.size+1)) (h':=s.heap.push U7) (t':=s.toks) (fun b u q=>Jb _ q) (Je _) ⟨_,e1⟩
 refine I1.laid (a:=s.heap.objs.size+1) (o := .ins C s.heap.objs.size []) (t':=s.toks) (fun b u q=>Jb _ q) (Nat.le_of_eq (J8 _ _)) ?_
 have ne:s.heap.objs.size≠s.heap.objs.size+1:=Jm (Nat.lt_succ_self _)
 refine⟨by rw[ak ne,ay],Um _,ne,e2,fun _=>none,(Heap.Ns1.of_empty e3).at fun o q=>Jb _ q,fun _=>True.intro,fun y hy=>absurd rfl hy⟩
theorem HR {prog:Program}{w:World}{env:Env}{e:Expr}{f:Str}{pos:Pos}{s:Shared}{Q:Value->Shared->Prop}(hb:attributeBase e f env (eval e env)=eval e env)
  (h:wpAny (model prog w) A (eval e env) (fun o s₁=>wpAny (model prog w) A (getAttr o f true) Q E s₁) E s):wpAny (model prog w) A (eval (.Attribute e f pos) env) Q E s:=
 Attribute_any_ h (by rw[arm_eval_Attribute,hb])
end
def NU (K:Ja)(ta:TE)(f:Str):TE:=fun σ H Q=>ta σ H fun x H1=>wb fun a C dx fs v=>x = .ref a/\H1 a=some (.ins C dx fs)/\IK K C/\fC K C f/\fs.lookup f=some v/\Q v H1
def Ol (K:Ja)(ta tv:TE)(f:Str):TS:=fun D σ H=>tv σ H fun y H1=>ta σ H1 fun x H2=>qi fun a C dx fs=>x = .ref a/\H2 a=some (.ins C dx fs)/\IK K C/\fC K C f/\fs.length<1000 /\
 D.nx σ (upd H2 a (.ins C dx (ji f y fs)))
section
variable {X:Cx}{o e value:Expr}{f:Str}{pos pos' SA:Pos}{ta tv:TE}
theorem LV (he:PE X e ta)(hb:attributeBase e f X.env (eval e X.env)=eval e X.env):PE X (.Attribute e f pos) (NU X.K ta f):=by
 intro pins s σ H Q I h
 refine HR hb (bg (he s σ H _ I h) fun u s1 hz_ =>?_)
 refine ai.el hz_ _ ?_
 clear hz_
 rintro x H1 I1 rx ⟨a,C,dx,fs,v,ex,ea,c,n,l,q⟩
 subst ex
 obtain rfl:u=Value.ref a:=rx
 exact wz I1 ea c n l fun u' s2 I2 ru=>⟨v,H1,I2,ru,q⟩
theorem pj (ha:PE X o ta)(hv:PE X value tv)(hs:swapsWith value (some (.Attribute o f pos')) pos.line X.env=pure false):PS X (.Assign [.Attribute o f pos'] value pos) (Ol X.K ta tv f):=by
 intro pins s σ H D I h
 refine plainObj_wpAny_Assign_Attribute (bg (hv s σ H _ I h) fun u s1 ⟨y,H1,I1,ry,q⟩=>bg (ha s1 σ H1 _ I1 q) fun ov s2 ⟨x,H2,I2,rx,a,C,dx,fs,ex,ea,c,n,l,q2⟩=>?_) hs
 subst ex
 obtain rfl:ov=Value.ref a:=rx
 exact yg I2 ea c n l ry fun s3 I3=>⟨σ,_,I3,q2⟩
end
section
variable {X:Cx}{pins:List (Addr×Obj)}{σ:St}{H:Hp}{s:Shared}{A:Around}{E:Value->Shared->Prop}{Q:Value->Shared->Prop}{c:Value}{b:Bool}
inductive kS (K:Ja)(H:Hp):V->Value->Prop where
 | non:kS K H .non (.type "NoneType")
 | bl (x:Bool):kS K H (.bl x) (.type "bool")
 | int (i:Int):kS K H (.int i) (.type "int")
 | str (x:Str):kS K H (.str x) (.type "str")
 | flt (x:UInt64):kS K H (.flt x) (.type "float")
 | lst {a:Addr} {xs:List V} (e:H a=some (.lst xs)):kS K H (.ref a) (.type "list")
 | frz {a:Addr} {o:Obj} {xs:List V} (e:H a=some (.frz o (.lst xs))):kS K H (.ref a) (.type "list")
 | tup {a:Addr} {xs:List V} (e:H a=some (.tup xs)):kS K H (.ref a) (.type "tuple")
 | dK {a:Addr} {kvs:List (Key×V)} (e:H a=some (.dK kvs)):kS K H (.ref a) (.type "dict")
 | dT {a:Addr} {kvs:List (List Key×V)} (e:H a=some (.dT kvs)):kS K H (.ref a) (.type "dict")
 | ins {a C dx:Addr} {fs:List (Str×V)} (e:H a=some (.ins C dx fs)) (cl:IK K C) (ha:Ua K (.ref C) "__class__" = some (some (.builtin "object.__class__")))
   (hn:PySem.W.specialIn K (.builtin "object.__class__") "__get__" = some (some (.builtin "getset_descriptor.__get__"))) (Hr:PySem.W.takesIn K (.builtin "object.__class__")=some true)
   (hm:PySem.W.mroIn K C (.type "object")=some true):kS K H (.ref a) (.ref C)
theorem AZ {x:V}{u t:Value}(I:Inv X pins σ H s)(rx:RelV x u)(ty:kS X.K H x t)(e:Yi X.K t c=some b)(h:∀tk,Q (.bool b) { s with toks:=tk }):
  wpAny (model X.prog X.w) A (call (.builtin "isinstance") [u,c]) Q E s:=by
 cases ty with
 | non=>cases (show u=Value.none from rx);exact U1 PySem.W.kitx_none I.je True.intro e (fun z=>nomatch z) h
 | bl y=>cases (show u=Value.bool y from rx);exact U1 PySem.W.kitx_bool I.je True.intro e (fun z=>nomatch z) h
 | int i=>obtain⟨t,q⟩:=(show ∃t,u=Value.int i t from rx);cases q;exact U1 PySem.W.kitx_int I.je True.intro e (fun z=>nomatch z) h
 | str y=>obtain⟨t,q⟩:=(show ∃t,u=Value.str y t from rx);cases q;exact U1 PySem.W.kitx_str I.je True.intro e (fun z=>nomatch z) h
 | flt y=>obtain⟨t,q⟩:=(show ∃t,u=Value.float y t from rx);cases q;exact U1 PySem.W.kitx_float I.je True.intro e (fun z=>nomatch z) h
 | @lst a xs ea=>
  cases (show u=Value.ref a from rx)
  obtain⟨_,_,n,_,h1⟩:=(show bz X.prog X.w H s.heap a (.lst xs) from I.bC a _ ea)
  exact U1 PySem.W.kitx_list I.je ⟨_,h1,rfl⟩ e (fun z=>nomatch z) h
 | @frz a ob xs ea=>
  cases (show u=Value.ref a from rx)
  obtain⟨_,_,_,n,_,h1⟩:=(show bz X.prog X.w H s.heap a (.frz ob (.lst xs)) from I.bC a _ ea)
  exact U1 PySem.W.kitx_list I.je ⟨_,h1,rfl⟩ e (fun z=>nomatch z) h
 | @tup a xs ea=>
  cases (show u=Value.ref a from rx)
  obtain⟨_,_,_,p⟩:=(show bz X.prog X.w H s.heap a (.tup xs) from I.bC a _ ea)
  obtain⟨o,h1,_,h2,_⟩:=p
  exact U1 PySem.W.kitx_tuple I.je ⟨o,h1,h2⟩ e (fun z=>nomatch z) h
 | @dK a kvs ea=>
  cases (show u=Value.ref a from rx)
  obtain⟨_,_,vs,_,p⟩:=(show bz X.prog X.w H s.heap a (.dK kvs) from I.bC a _ ea)
  obtain⟨o,es,ep,h1,h2,_⟩:=p
  exact U1 PySem.W.kitx_dict I.je ⟨o,h1,h2.1⟩ e (fun z=>nomatch z) h
 | @dT a kvs ea=>
  cases (show u=Value.ref a from rx)
  obtain⟨_,_,xs,_,o,es,ep,h1,h2,_⟩:=(show bz X.prog X.w H s.heap a (.dT kvs) from I.bC a _ ea)
  exact U1 PySem.W.kitx_dict I.je ⟨o,h1,h2.1⟩ e (fun z=>nomatch z) h
 | @ins a C dx fs ea cl ha hn Hr hm=>
  cases (show u=Value.ref a from rx)
  obtain⟨mA,O,_⟩:=rE I.bC ea
  obtain⟨od,J,_⟩:=O.look
  exact U1 (PySem.W.kitx_own (cl.get _) cl.hd ha hn Hr hm) I.je J e (fun z=>nomatch z) h
end
structure cY (k:Nat)(A:Around):Prop where
 hd:A.handled=none
 dp:A.depth+3*k+5<recursionLimit
 un:A.units+16*k+200<cLine
 gd:A.guards=some []
theorem cY.mono {j k:Nat}{A:Around}(r:cY k A)(h:j<=k):cY j A:=⟨r.hd,by have:=r.dp;omega,by have:=r.un;omega,r.gd⟩
theorem cY.deeper {k:Nat}{A:Around}(r:cY (k+1) A)(env:Env):cY k (A.deeper env):=
 ⟨r.hd,by have:=r.dp;show A.depth+1+3*k+5<_;omega,by have:=r.un;show A.units+3+16*k+200<_;omega,r.gd⟩
theorem xo {A:Around}{C:Addr}{us:List Value}{kw:List (Str×Value)}:(A.under (.builtin "type.__call__" ⟨.ref C::us,kw⟩)).depth=A.depth+1:=by
 first|rfl|simp[Around.under,Code.weight,Code.isCreation,Code.isGuard,Code.isCaller,Code.frames,Code.isFrame,guardIds]
theorem xN {A:Around}{C:Addr}{us:List Value}{kw:List (Str×Value)}:(A.under (.builtin "type.__call__" ⟨.ref C::us,kw⟩)).units=A.units+1:=by
 first|rfl|simp[Around.under,Code.cUnits,Code.frames,Code.isFrame]
theorem vq {A:Around}{C:Addr}{us:List Value}{kw:List (Str×Value)}:(A.under (.builtin "type.__call__" ⟨.ref C::us,kw⟩)).guards=A.guards:=by
 first|rfl|simp[Around.under,Code.guards,Code.isGuard,guardIds,pushGuards]
theorem cY.make {k:Nat}{A:Around}(r:cY (k+1) A)(C:Addr)(us:List Value)(kw:List (Str×Value)):cY k (A.under (.builtin "type.__call__" ⟨.ref C::us,kw⟩)):=
 ⟨r.hd,by have:=r.dp;rw[xo];omega,by have:=r.un;rw[xN];omega,by rw[vq];exact r.gd⟩
theorem cY.depth {k:Nat}{A:Around}(r:cY k A):A.depth<recursionLimit:=by have:=r.dp;omega
theorem cY.units {k:Nat}{A:Around}(r:cY k A):A.units+64<cLine:=by have:=r.un;omega
noncomputable def B8:TA:=fun _ H Q=>Q [] H
noncomputable def y6 (ta:TE)(tr:TA):TA:=fun σ H Q=>ta σ H fun x H1=>tr σ H1 fun xs H2=>Q (x::xs) H2
section
variable {X:Cx}{e:Expr}{es:List Expr}{te:TE}{t:TA}{pos:Pos}
theorem ae:PA X [] B8:=fun _ _ _ _ H Q I h=>Calls.spliced_nil ⟨[],H,I,.nil,h⟩
theorem aa (ha:PE X e te)(hr:PA X es t)(hs:starEach (e::es) X.env=(false,eval e X.env)::starEach es X.env:=by rfl):PA X (e::es) (y6 te t):=by
 intro pos pins s σ H Q I h
 rw[hs]
 show wpAny _ _ (spliced ((false,eval e X.env)::backTo pos (starEach es X.env))) _ _ s
 refine Calls.spliced_cons (bg (ha s σ H _ I h) fun u s1 hz_ =>?_)
 refine ai.el hz_ _ ?_
 clear hz_
 rintro x H1 I1 r1 q1
 exact bg (hr s1 σ H1 _ I1 q1) fun us s2 hz_=>ai.el hz_ _ fun xs H2 I2 r2 q2=>⟨x::xs,H2,I2,.cons r1 r2,q2⟩
def PM (t:TA):TE:=fun σ H Q=>t σ H fun xs H1=>xs.length<=sizeLine/\∀p,H1 p=none->Q (.ref p) (upd H1 p (.tup xs))
def Pt (t:TA):TE:=fun σ H Q=>t σ H fun xs H1=>xs.length<=sizeLine/\∀p,H1 p=none->Q (.ref p) (upd H1 p (.lst xs))
theorem D8 {x1}(h:PA X es t):PE X (.Tuple es x1 pos) (PM t):=by
 intro pins s σ H Q I hq
 refine wpAny_Tuple_spliced (bg (h s σ H _ I hq) fun us s1 ⟨xs,H1,I1,r,z,q⟩=>⟨by rw[<-r.length];exact z,?_⟩)
 have hf:H1 s1.heap.objs.size=none:=I1.bC.fresh (Je _)
 refine⟨.ref s1.heap.objs.size,upd H1 s1.heap.objs.size (.tup xs),I1.laid (t':=s1.toks) (fun b u e=>Jb _ e) (Je _) ?_,rfl,q _ hf⟩
 exact⟨z,us,r,⟨_,Jk _ rfl,rfl,rfl,_,rfl⟩⟩
theorem LU (h:PA X es t):PE X (.List es pos) (Pt t):=by
 intro pins s σ H Q I hq
 refine wpAny_List_spliced (bg (h s σ H _ I hq) fun us s1 ⟨xs,H1,I1,r,z,q⟩=>⟨by rw[<-r.length];exact z,?_⟩)
 have hf:H1 s1.heap.objs.size=none:=I1.bC.fresh (Je _)
 refine⟨.ref s1.heap.objs.size,upd H1 s1.heap.objs.size (.lst xs),I1.laid (t':=s1.toks) (fun b u e=>Jb _ e) (Je _) ?_,rfl,q _ hf⟩
 exact⟨z,us,0,r,Jk _ rfl⟩
end
abbrev Sp:=List V->Hp->VK->XK->Prop
abbrev Al:=List Env->Hp->Shared->XK->Value->Shared->Prop
structure xx (P:Program)(w:World)(K:Ja)(mg:Str->Option Value)(base:Heap)(A:Around)(outer:List Env)(s:Shared)(H:Hp):Prop where
 frames:A.frames=some outer
 mod:Mod K mg base
 bs:∀b o,base.get? b=some o->s.heap.get? b=some o/\H b=none
 bsz:base.objs.size<=s.heap.objs.size
 kZ:s.heap.FunFrames base outer
 frf:∀b∈gm outer,H b=none
 bC:gV P w H s.heap
 bare:AllBare s.gens
def CE (outer:List Env)(P:Program)(w:World)(H:Hp)(s:Shared)(Q:VK)(u:Value)(s':Shared):Prop:=
 dS fun v H'=>s'.os=s.os/\AllBare s'.gens/\Un (gm outer) [] H H' s.heap s'.heap/\gV P w H' s'.heap/\RelV v u/\Q v H'
def CR (CX:Al)(outer:List Env)(P:Program)(w:World)(H:Hp)(s:Shared)(Q:VK)(E:XK)(r:Result)(s':Shared):Prop:=
 match r with
 | .ok (.ret u)=>CE outer P w H s Q u s'
 | .ok _=>False
 | .error e=>CX outer H s E e s'
structure bh (P:Program)(w:World)(K:Ja)(mg:Str->Option Value)(base:Heap)(CX:Al)(k:Nat)(f:Addr)(fd:FuncData)(ps:List Str)(sp:Sp):Prop where
 len:∀vs H Q E,sp vs H Q E->vs.length=ps.length
 run:∀(A:Around) (outer:List Env) (s:Shared) (H:Hp) (args:Args) (us:List Value) (vs:List V) (Q:VK) (E:XK),cY k A->xx P w K mg base A outer s H->BindsTo s fd args (ps.zip us)->Vals vs us->sp vs H Q E ->
  codeAny (model P w) A (.call (.ref f) args) (CR CX outer P w H s Q E) s
theorem bh.mono {P:Program}{w:World}{K:Ja}{mg:Str->Option Value}{base:Heap}{CX:Al}{j k:Nat}{f:Addr}{fd:FuncData}{ps:List Str}{sp:Sp}(F:bh P w K mg base CX j f fd ps sp)(h:j<=k):
  bh P w K mg base CX k f fd ps sp:=⟨F.len,fun A outer s H args us vs Q E hr=>F.run A outer s H args us vs Q E (hr.mono h)⟩
theorem bh.imp {P:Program}{w:World}{K:Ja}{mg:Str->Option Value}{base:Heap}{CX:Al}{k:Nat}{f:Addr}{fd:FuncData}{ps:List Str}{sp IB:Sp}(F:bh P w K mg base CX k f fd ps sp)
  (h:∀vs H Q E,IB vs H Q E->sp vs H Q E):bh P w K mg base CX k f fd ps IB:=
 ⟨fun vs H Q E q=>F.len vs H Q E (h _ _ _ _ q),fun A outer s H args us vs Q E hr he hb hv hs=>F.run A outer s H args us vs Q E hr he hb hv (h _ _ _ _ hs)⟩
theorem xx.make {P:Program}{w:World}{K:Ja}{mg:Str->Option Value}{base:Heap}{A:Around}{outer:List Env}{s:Shared}{H:Hp}(e:xx P w K mg base A outer s H)(C:Addr)(us:List Value)(kw:List (Str×Value)):
  xx P w K mg base (A.under (.builtin "type.__call__" ⟨.ref C::us,kw⟩)) outer s H:=⟨by first|exact e.frames|(simpa [Around.under,Code.envs,Code.isFrame,pushEnvs] using e.frames),e.mod,e.bs,e.bsz,e.kZ,e.frf,e.bC,e.bare⟩
section
variable {X:Cx}{pins:List (Addr×Obj)}{σ:St}{H:Hp}{s s':Shared}
theorem Inv.Mc (I:Inv X pins σ H s):xx X.prog X.w X.K X.mg X.base X.A X.stack s H:=
 ⟨I.ok.frames,I.ok.mod,I.bs,Jh I.ok.bsz I.sz,I.stack,I.tK,I.bC,I.bare⟩
theorem Inv.after {Q:VK}{u:Value}(I:Inv X pins σ H s)(h:CE X.stack X.prog X.w H s Q u s'):EP X pins σ Q u s':=by
 obtain⟨v,H',os,bare,un,bC,r,q⟩:=h
 obtain⟨hh,g,d,t,os'⟩:=s'
 obtain rfl:os'=s.os:=os
 exact⟨v,H',I.call (h':=hh) (g':=g) (d':=d) (t':=t) (ch:=[]) un bC bare (fun b z=>absurd z (by simp)),r,q⟩
end
def ur (sp:Sp)(vN:List V)(E:XK)(t:TA):TE:=fun σ H Q=>t σ H fun vs H1=>sp (vs++vN) H1 Q E
def Nq (C:Addr)(sp:Sp)(vN:List V)(E:XK)(t:TA):TE:=fun σ H Q=>t σ H fun vs H1=>∀x dx,H1 x=none->H1 dx=none->dx≠x ->
 sp (.ref x::(vs++vN)) (upd (upd H1 dx (.own x)) x (.ins C dx [])) (fun v H2=>v = .non/\Q (.ref x) H2) E
def Binds (K:Ja)(fd:FuncData)(ps:List Str)(ds:List Value):Prop:=
 ∀(s:Shared) (us:List Value),K.In s.heap->(us++ds).length=ps.length->BindsTo s fd ⟨us,[]⟩ (ps.zip (us++ds))
theorem Binds.all {K:Ja}{fd:FuncData}{ps:List Str}(h:∀us:List Value,us.length=ps.length->bindArgs fd ⟨us,[]⟩=pure (ps.zip us)):Binds K fd ps []:=fun s us _ hl=>by
 rw[Ym] at hl ⊢
 exact .of_eq (h us hl)
def Passes (CX:Al)(X:Cx)(E:XK):Prop:=∀(pins:List (Addr×Obj)) (σ:St) (H:Hp) (s:Shared) (e:Value) (s':Shared),Inv X pins σ H s->CX X.stack H s E e s'->X.xe e s'
section
variable {X:Cx}{CX:Al}{k:Nat}{f C:Addr}{fd:FuncData}{ps:List Str}{sp:Sp}{vN:List V}{ds:List Value}{E:XK}{x m:Str}{p pos apos:Pos}{e o:Expr}{es:List Expr}{ta:TE}{t:TA}
theorem C3 {pins:List (Addr×Obj)}{σ:St}{H:Hp}{s:Shared}{Q:VK}{us:List Value}{vs:List V}(F:bh X.prog X.w X.K X.mg X.base CX k f fd ps sp)(hr:cY k X.A)(hb:Binds X.K fd ps ds)(hd:Vals vN ds)(hx:Passes CX X E)
  (I:Inv X pins σ H s) (r:Vals vs us) (h:sp (vs++vN) H Q E):wpAny (model X.prog X.w) X.A (call (.ref f) us) (EP X pins σ Q) X.xe s:=by
 have r2:Vals (vs++vN) (us++ds):=r.append hd
 have hl:(us++ds).length=ps.length:=by rw[<-r2.length];exact F.len _ _ _ _ h
 refine wpAny_call (codeAny_mono (F.run X.A X.stack s H ⟨us,[]⟩ (us++ds) (vs++vN) Q E hr I.Mc (hb s us I.je hl) r2 h) fun r s' hq =>?_)
 cases r with
 | error e=>exact hx pins σ H s e s' I hq
 | ok fl=>
  cases fl with
  | ret u=>exact I.after hq
  | next=>exact False.elim hq
  | brk=>exact False.elim hq
  | cont=>exact False.elim hq
theorem zr (F:bh X.prog X.w X.K X.mg X.base CX k f fd ps sp)(hr:cY k X.A)(hg:Gl X x)(hm:X.mg x=some (.ref f))(hk:Uu X.K (.ref f)=true)(hb:Binds X.K fd ps ds)(hd:Vals vN ds)(hx:Passes CX X E)
  (ha:PA X (e::es) t) (sR:(x==("__debug__" : Str))=false:=by decide) (he:starEach (e::es) X.env=(false,eval e X.env)::starEach es X.env:=by rfl) (qy:(backTo pos (starEach es X.env)).any (·.1)=false:=by rfl) :
  PE X (.Call (.Name x p) (e::es) [] pos) (ur sp vN E t):=by
 intro pins s σ H Q I h
 refine wpAny_Call_Name_kw (kh I hg hm ?_ sR)
 refine PySem.W.callWith_K (h₀:=X.base) I.ok.mod.zu hk (bg (ha s σ H _ I h) fun us s1 hz_=>ai.el hz_ _ fun vs H1 I1 r q=>⟨I1.je,?_⟩) he qy
 exact C3 F hr hb hd hx I1 r q
theorem Cw (F:bh X.prog X.w X.K X.mg X.base CX k f fd ps sp)(hr:cY k X.A)(hg:Gl X x)(hm:X.mg x=some (.ref f))(hk:Uu X.K (.ref f)=true)(hb:Binds X.K fd ps ds)(hd:Vals vN ds)(hx:Passes CX X E)
  (sR:(x==("__debug__" : Str))=false:=by decide):PE X (.Call (.Name x p) [] [] pos) (ur sp vN E B8):=by
 intro pins s σ H Q I h
 refine wpAny_Call_Name_kw (kh I hg hm ?_ sR)
 exact PySem.W.callWith_K0 I.je hk (C3 (us:=[]) F hr hb hd hx I .nil h)
structure Mk (K:Ja)(C f:Addr):Prop where
 makes:PySem.W.makesIn K C=true
 init:Ua K (.ref C) "__init__" = some (some (.ref f))
 fn:PySem.W.isFn K (.ref f)=true
 kp:Uu K (.ref C)=true
theorem CG {pins:List (Addr×Obj)}{σ:St}{H:Hp}{s:Shared}{Q:VK}{us:List Value}{vs:List V}(M:Mk X.K C f)(F:bh X.prog X.w X.K X.mg X.base CX k f fd ps sp)(hr:cY (k+1) X.A)(hb:Binds X.K fd ps ds)(hd:Vals vN ds)
  (hx:Passes CX X E) (I:Inv X pins σ H s) (r:Vals vs us)
  (h:∀x dx,H x=none->H dx=none->dx≠x->sp (.ref x::(vs++vN)) (upd (upd H dx (.own x)) x (.ins C dx [])) (fun v H2=>v = .non/\Q (.ref x) H2) E) :
  wpAny (model X.prog X.w) X.A (call (.ref C) us) (EP X pins σ Q) X.xe s:=by
 have hq:=h (s.heap.objs.size+1) s.heap.objs.size (I.bC.fresh (Yr _)) (I.bC.fresh (Je _)) (Jm (Nat.lt_succ_self _))
 have I2:=Inv.made (C:=C) I
 have r2:Vals (V.ref (s.heap.objs.size+1)::(vs++vN)) (Value.ref (s.heap.objs.size+1)::(us++ds)) := .cons rfl (r.append hd)
 have hl:(Value.ref (s.heap.objs.size+1)::us++ds).length=ps.length:=by
  have e:=r2.length
  rw[F.len _ _ _ _ hq] at e
  exact e.symm
 refine wpAny_call (Dy (f:=f) I.je M.makes M.init (beq_iff_eq.mp M.fn) (codeAny_mono (F.run _ X.stack _ _ ⟨Value.ref (s.heap.objs.size+1)::us,[]⟩ (Value.ref (s.heap.objs.size+1)::(us++ds)) _ _ E (hr.make C us [])
  (I2.Mc.make C us []) (hb _ (Value.ref (s.heap.objs.size+1)::us) I2.je hl) r2 hq) fun r s' hq' =>?_))
 cases r with
 | error e=>exact hx pins σ _ _ e s' I2 hq'
 | ok fl=>
  cases fl with
  | ret u=>
   obtain⟨v,H',I3,rv,ev,q3⟩:=I2.after hq'
   subst ev
   exact⟨rv,⟨V.ref (s.heap.objs.size+1),H',I3,rfl,q3⟩⟩
  | next=>exact False.elim hq'
  | brk=>exact False.elim hq'
  | cont=>exact False.elim hq'
theorem Gu (M:Mk X.K C f)(F:bh X.prog X.w X.K X.mg X.base CX k f fd ps sp)(hr:cY (k+1) X.A)(hg:Gl X x)(hm:X.mg x=some (.ref C))(hb:Binds X.K fd ps ds)(hd:Vals vN ds)(hx:Passes CX X E)
  (ha:PA X (e::es) t) (sR:(x==("__debug__" : Str))=false:=by decide) (he:starEach (e::es) X.env=(false,eval e X.env)::starEach es X.env:=by rfl) (qy:(backTo pos (starEach es X.env)).any (·.1)=false:=by rfl) :
  PE X (.Call (.Name x p) (e::es) [] pos) (Nq C sp vN E t):=by
 intro pins s σ H Q I h
 refine wpAny_Call_Name_kw (kh I hg hm ?_ sR)
 refine PySem.W.callWith_K (h₀:=X.base) I.ok.mod.zu M.kp (bg (ha s σ H _ I h) fun us s1 hz_=>ai.el hz_ _ fun vs H1 I1 r q=>⟨I1.je,?_⟩) he qy
 exact CG M F hr hb hd hx I1 r q
end
structure aA (N P:List Str)(sc:Scope):Prop where
 kind:sc.kind = .function
 co:sc.isCoroutine=false
 gen:sc.isGenerator=false
 nd:N.Nodup
 pre:N.take P.length=P
 par:∀x∈P,sc.names.lookup x=some .local∨sc.names.lookup x=some .cell
 nofree:∀y∈sc.names,y.2 ≠ .free
theorem qb {kindOf:Str->Option NameKind}{x:Str}:∀{binds:List (Str×Value)} {m:Str->Option Value},(∀v,(x,v)∉binds)->bindL kindOf binds m x=m x
 | [],_,_=>rfl
 | (n,v)::r,m,h=>by
  unfold bindL
  rw[qb fun w hw=>h w (Jo _ hw)]
  split
  ·have:x≠n:=by rintro rfl;exact h v Jr
   simp[this]
  ·rfl
theorem qZ {kindOf:Str->Option NameKind}{x:Str}:∀{binds:List (Str×Value)} {m:Str->Option Value},(∀v,(x,v)∉binds)->bindC kindOf binds m x=m x
 | [],_,_=>rfl
 | (n,v)::r,m,h=>by
  unfold bindC
  rw[qZ fun w hw=>h w (Jo _ hw)]
  split
  ·rfl
  ·have:x≠n:=by rintro rfl;exact h v Jr
   simp[this]
theorem qh {kindOf:Str->Option NameKind}{x:Str}{v:Value}:∀{P:List Str} {vs:List Value} {i:Nat} {m:Str->Option Value},P.Nodup->P[i]? = some x->vs[i]? = some v->kindOf x=some .local ->
  bindL kindOf (P.zip vs) m x=some v
 | [],_,_,_,_,h,_,_=>by simp at h
 | _::_,[],_,_,_,_,h,_=>by simp at h
 | p::P,w::vs,0,m,nd,h1,h2,hk=>by
  simp at h1 h2;subst h1;subst h2
  show bindL kindOf ((p,w)::P.zip vs) m p=_
  unfold bindL
  rw[qb fun v hv=>(U9.mp nd).1 (List.of_mem_zip hv).1,if_pos hk]
  simp
 | p::P,w::vs,i+1,m,nd,h1,h2,hk=>by
  show bindL kindOf ((p,w)::P.zip vs) m x=_
  unfold bindL
  exact qh (i:=i) (U9.mp nd).2 (by simpa using h1) (by simpa using h2) hk
theorem qM {kindOf:Str->Option NameKind}{x:Str}{v:Value}:∀{P:List Str} {vs:List Value} {i:Nat} {m:Str->Option Value},P.Nodup->P[i]? = some x->vs[i]? = some v->kindOf x≠some .local ->
  bindC kindOf (P.zip vs) m x=some v
 | [],_,_,_,_,h,_,_=>by simp at h
 | _::_,[],_,_,_,_,h,_=>by simp at h
 | p::P,w::vs,0,m,nd,h1,h2,hk=>by
  simp at h1 h2;subst h1;subst h2
  show bindC kindOf ((p,w)::P.zip vs) m p=_
  unfold bindC
  rw[qZ fun v hv=>(U9.mp nd).1 (List.of_mem_zip hv).1,if_neg hk]
  simp
 | p::P,w::vs,i+1,m,nd,h1,h2,hk=>by
  show bindC kindOf ((p,w)::P.zip vs) m x=_
  unfold bindC
  exact qM (i:=i) (U9.mp nd).2 (by simpa using h1) (by simpa using h2) hk
noncomputable def start (N:List Str)(vs:List V):St:=vs.map some++Ju (N.length-vs.length) none
noncomputable def hV (CX:Al)(P:Program)(w:World)(K:Ja)(mg:Str->Option Value)(base:Heap)(N:List Str)(qual:Str)(scope:Scope)(f:Addr)(cd:Value)(A:Around)(outer:List Env)(s:Shared)(H:Hp)(E:XK):Cx where
 prog:=P
 w:=w
 K:=K
 mg:=mg
 base:=base
 A:=A.deeper (envOfC qual scope s.heap.objs.size f cd)
 N:=N
 s₀:=s
 H₀:=H
 env:=envOfC qual scope s.heap.objs.size f cd
 outer:=outer
 stack:=envOfC qual scope s.heap.objs.size f cd::outer
 ex:=[]
 calm:=true
 fn:=fun _=>true
 pn:=[]
 xe:=fun e s'=>wpAny (model P w) (A.deeper (envOfC qual scope s.heap.objs.size f cd)) (leaving (envOfC qual scope s.heap.objs.size f cd) e) (fun _ s''=>CX outer H s E e s'') (fun e' s''=>CX outer H s E e' s'') s'
theorem vz {sc:Scope}{n:Nat}{x:Str}(h:sc.names.lookup x=some .cell):∃c,(cellsFrom n sc.names []).lookup x=some c:=by
 have q:=PySem.W.cellsFrom_some sc.names n [] (.inl h)
 exact Option.isSome_iff_exists.mp q
theorem BO {CX:Al}{P:Program}{w:World}{K:Ja}{mg:Str->Option Value}{base:Heap}{N ps:List Str}{qual:Str}{scope:Scope}{f:Addr}{cd:Value}{A:Around}{outer:List Env}{s s1:Shared}{H:Hp}{E:XK}{us:List Value}{vs:List V}
  (S:aA N ps scope) (hd:A.handled=none) (e0:xx P w K mg base A outer s H) (hl:vs.length=ps.length) (r:Vals vs us)
  (x:InCallC s s.heap.objs.size (bindL (envOfC qual scope s.heap.objs.size f cd).kindOf (ps.zip us) fun _=>none) (cellsFrom (s.heap.objs.size+1) scope.names []) (bindC (envOfC qual scope s.heap.objs.size f cd).kindOf (ps.zip us) fun _=>none) s1) :
  Inv (hV CX P w K mg base N qual scope f cd A outer s H E) [] (start N vs) H s1:=by
 have qy:ps.length<=N.length:=by have:=congrArg List.length S.pre;rw[Uq] at this;omega
 obtain⟨h1,tk,rfl,hk⟩:=x.done
 have O0:∀b:Addr,b∉(hV CX P w K mg base N qual scope f cd A outer s H E).ex:=fun b z=>absurd (show b∈([]:List Addr) from z) (by simp)
 refine⟨⟨e0.mod,S.kind,rfl,rfl,Je _,fun y z c h1 h2 =>?_,fun y hy =>?_,fun y c _ h =>?_,fun _=>hd,Around.frames_deeper e0.frames,.inr ⟨rfl,rfl⟩,fun b z=>absurd z (O0 b),e0.bs,e0.bsz,fun b _ _=>O0 b,fun b z=>absurd z (O0 b),e0.kZ,e0.frf⟩,
  rfl,e0.bare,Un.kept hk,⟨_,x.toInCall.ns,fun i y v h1 h2 h3 =>?_⟩,fun y c h=>⟨_,x.cell y c h⟩,e0.bC.fresh (Je _),fun y c h =>?_,fun p hp=>absurd (show p∈([]:List (Addr×Obj)) from hp) (by simp),e0.bC.kept hk,?_⟩
 ·exact name_of_addr x.apart (PySem.mem_of_lookup h1) (PySem.mem_of_lookup h2)
 ·have hy:scope.names.lookup y=some .cell∨scope.names.lookup y=some .free:=hy
  rcases hy with hy|hy
  ·exact vz hy
  ·exact absurd rfl (S.nofree _ (PySem.mem_of_lookup hy))
 ·exact U8 (x.above y c (PySem.mem_of_lookup h))
 ·have hi:i<vs.length:=by
   unfold start at h2
   by_cases hi:i<vs.length
   ·exact hi
   ·rw[Ui (by simpa using hi)] at h2
    rw[Yc] at h2
    split at h2<;>cases h2
  have ha:vs[i]? = some v:=by
   unfold start at h2
   rw[Uj (by simpa using hi),Ji] at h2
   cases e:vs[i]? with
   | none=>rw[e] at h2;cases h2
   | some a=>rw[e] at h2;cases h2;rfl
  obtain⟨u,hu,rv⟩:=r.get ha
  have hp:ps[i]? = some y:=by
   rw[<-S.pre,List.getElem?_take_of_lt (by omega)];exact h1
  have VN:ps.Nodup:=by rw[<-S.pre];exact S.nd.sublist (List.take_sublist _ _)
  refine⟨u,rv,?_⟩
  rcases S.par y (J2 hp) with k|k
  ·exact .inl ⟨k,qh VN hp hu k⟩
  ·obtain⟨c,e⟩:=vz (n:=s.heap.objs.size+1) k
   refine .inr ⟨.inl k,c,e,?_⟩
   have q:=x.cell y c e
   rw[qM VN hp hu (by show scope.names.lookup y≠_;rw[k];decide)] at q
   exact q
 ·exact e0.bC.fresh (U8 (x.above y c (PySem.mem_of_lookup h)))
 ·unfold start
  show _=N.length
  rw[Jp,Jc,Ul]
  omega
theorem Iu {CX:Al}{P:Program}{w:World}{K:Ja}{mg:Str->Option Value}{base:Heap}{k:Nat}{f:Addr}{name qual:Str}{params:Arguments}{body:List Stmt}{scope:Scope}{dV kV doc pm cG ct oc:Value}{an od:Option Addr}
  {zR:Array (Option Value)} {N ps:List Str} {sp:Sp} (lk:K.lookup f=some ⟨oc,od,.func (Yp name qual params body scope dV kV doc pm an cG ct),zR⟩) (wX:Y7 K cG qual=true) (S:aA N ps scope)
  (len:∀vs H Q E,sp vs H Q E->vs.length=ps.length)
  (vC:∀(A:Around) (outer:List Env) (s:Shared) (H:Hp) (vs:List V) (Q:VK) (E:XK),cY k (A.deeper (envOfC qual scope s.heap.objs.size f cG))->sp vs H Q E ->
   ∃t,yU (hV CX P w K mg base N qual scope f cG A outer s H E) body t/\t { nx:=fun _ H'=>Q .non H',rt:=Q } (start N vs) H) :
  bh P w K mg base CX (k+1) f (Yp name qual params body scope dV kV doc pm an cG ct) ps sp:=by
 refine⟨len,fun A outer s H args us vs Q E hr e0 hb r Fh =>?_⟩
 have hl:=len _ _ _ _ Fh
 have KX:K.In s.heap:=e0.mod.zu.keeps fun b o e=>(e0.bs b o e).1
 have lim:s.heap.NoLimit:=e0.mod.nolimit.keeps fun b o e=>(e0.bs b o e).1
 have NO:∀y∈ps.zip us,scope.names.lookup y.1=some .local∨(scope.names.lookup y.1=some .cell/\((cellsFrom (s.heap.objs.size+1) scope.names []).lookup y.1).isSome=true):=fun⟨n,v⟩ hy=>by
  rcases S.par n (List.of_mem_zip hy).1 with q|q
  ·exact .inl q
  ·exact .inr ⟨q,PySem.W.cellsFrom_some _ _ _ (.inl q)⟩
 refine codeAny_call_function hr.depth (KX _ _ lk) rfl S.co S.gen rfl (PySem.W.codeRec_of KX wX) (hb _ _ _ _ ?_)
 refine wpAny_newFunctionEnv_cells S.kind NO fun env he s1 x =>?_
 subst he
 refine⟨lim.keeps x.toInCall.keep,codeAny_func ?_⟩
 obtain⟨t,ht,hq⟩:=vC A outer s H vs Q E (hr.deeper _) Fh
 have I:Inv (hV CX P w K mg base N qual scope f cG A outer s H E) [] (start N vs) H s1:=BO S hr.hd e0 hl r x
 refine wpAny_mono (ht s1 (start N vs) H _ I hq) (fun fl s' hs =>?_) fun e s' hs=>hs
 have fin:∀{σ':St} {H':Hp} {v:V} {u:Value},Inv (hV CX P w K mg base N qual scope f cG A outer s H E) [] σ' H' s'->RelV v u->Q v H'->CE outer P w H s Q u s':=
  fun{σ' H' v u} J rv q=>⟨v,H',J.os,J.bare,J.base,J.bC,rv,q⟩
 cases fl with
 | ret u=>
  obtain⟨v,σ',H',J,rv,q⟩:=hs
  exact fin J rv q
 | next=>
  obtain⟨σ',H',J,q⟩:=hs
  exact fin (v:=V.non) (u:=Value.none) J rfl q
 | brk=>
  obtain⟨_,_,_,q⟩:=hs
  exact False.elim q
 | cont=>
  obtain⟨_,_,_,q⟩:=hs
  exact False.elim q
section
variable {X:Cx}{x:Str}{p pos:Pos}{e:Expr}{es:List Expr}{t:TA}{id T:String}{r:List V->Hp->VK->Prop}
def QW (r:List V->Hp->VK->Prop)(t:TA):TE:=fun σ H Q=>t σ H fun vs H1=>r vs H1 Q
theorem ax (hc:bE X (.builtin id) r)(hg:Gl X x)(hm:X.mg x=none)(hv:bootBuiltins x=some (.builtin id))(ha:PA X (e::es) t)(hn:x ≠ "__name__":=by decide)(sR:(x==("__debug__" : Str))=false:=by decide)
  (he:starEach (e::es) X.env=(false,eval e X.env)::starEach es X.env:=by rfl) (qy:(backTo pos (starEach es X.env)).any (·.1)=false:=by rfl):PE X (.Call (.Name x p) (e::es) [] pos) (QW r t):=by
 intro pins s σ H Q I h
 refine wpAny_Call_Name_kw (dY I hg hm hv ?_ hn sR)
 exact PyProof.Rows.callWith_builtin1 (bg (ha s σ H _ I h) fun us s1 hz_=>ai.el hz_ _ fun vs H1 I1 r1 q1=>hc s1 σ H1 vs us Q I1 r1 q1) he qy
theorem bf (hc:bE X (.type T) r)(hg:Gl X x)(hm:X.mg x=none)(hv:bootBuiltins x=some (.type T))(ha:PA X (e::es) t)(hn:x ≠ "__name__":=by decide)(sR:(x==("__debug__" : Str))=false:=by decide)
  (he:starEach (e::es) X.env=(false,eval e X.env)::starEach es X.env:=by rfl) (qy:(backTo pos (starEach es X.env)).any (·.1)=false:=by rfl):PE X (.Call (.Name x p) (e::es) [] pos) (QW r t):=by
 intro pins s σ H Q I h
 refine wpAny_Call_Name_kw (dY I hg hm hv ?_ hn sR)
 exact PyProof.Rows.callWith_type1 (bg (ha s σ H _ I h) fun us s1 hz_=>ai.el hz_ _ fun vs H1 I1 r1 q1=>hc s1 σ H1 vs us Q I1 r1 q1) he qy
end
section
variable {κ:Type}[DecidableEq κ]
noncomputable def dU (kvs:List (κ×V))(k: κ):Option V:=(kvs.find? fun kv=>decide (kv.1=k)).map (·.2)
noncomputable def putK (kvs:List (κ×V))(k: κ)(v:V):List (κ×V):=
 if (kvs.any fun kv=>decide (kv.1=k))=true then kvs.map (fun kv=>if kv.1=k then (kv.1,v) else kv) else kvs++[(k,v)]
theorem cx {p: κ×V}{r:List (κ×V)}{k: κ}(e:p.1=k):dU (p::r) k=some p.2:=by simp[dU,List.find?_cons,e]
theorem cw {p: κ×V}{r:List (κ×V)}{k: κ}(e:¬p.1=k):dU (p::r) k=dU r k:=by simp[dU,List.find?_cons,e]
theorem gz (k: κ):∀kvs:List (κ×V),(kvs.any fun kv=>decide (kv.1=k))=(dU kvs k).isSome
 | []=>rfl
 | p::r=>by
  rw[Yd]
  by_cases e:p.1=k
  ·simp only[cx e,decide_eq_true e,Bool.true_or,Option.isSome_some]
  ·rw[cw e,decide_eq_false e,Bool.false_or];exact gz k r
theorem vW (k j: κ)(y:V):∀kvs:List (κ×V),dU (kvs.map fun kv=>if kv.1=k then (kv.1,y) else kv) j=(dU kvs j).map fun x=>if j=k then y else x
 | []=>rfl
 | p::r=>by
  have ih:=vW k j y r
  rw[J0]
  by_cases h:p.1=k
  ·rw[if_pos h]
   by_cases e:p.1=j
   ·rw[cx (p:=(p.1,y)) e,cx e,Option.map_some,if_pos (e.symm.trans h)]
   ·rw[cw (p:=(p.1,y)) e,cw e,ih]
  ·rw[if_neg h]
   by_cases e:p.1=j
   ·rw[cx (p:=p) e,cx e,Option.map_some,if_neg (fun z=>h (e.trans z))]
   ·rw[cw (p:=p) e,cw e,ih]
theorem lK (k j: κ)(y:V):∀kvs:List (κ×V),dU kvs k=none->dU (kvs++[(k,y)]) j=if j=k then some y else dU kvs j
 | [],_=>by
  by_cases e:k=j
  ·rw[if_pos e.symm];exact cx (p:=(k,y)) e
  ·rw[if_neg (fun z=>e z.symm)];exact cw (p:=(k,y)) e
 | p::r,hn=>by
  rw[List.cons_append]
  have hk:¬p.1=k:=fun z=>by rw[cx z] at hn;cases hn
  rw[cw hk] at hn
  have ih:=lK k j y r hn
  by_cases e:p.1=j
  ·rw[cx e,cx e,if_neg (fun z=>hk (e.trans z))]
  ·rw[cw e,cw e,ih]
theorem DF (kvs:List (κ×V))(k j: κ)(y:V):dU (putK kvs k y) j=if j=k then some y else dU kvs j:=by
 unfold putK
 by_cases a:(kvs.any fun kv=>decide (kv.1=k))=true
 ·rw[if_pos a,vW]
  rw[gz] at a
  by_cases e:j=k
  ·obtain⟨x,hx⟩:=Option.isSome_iff_exists.mp a
   rw[if_pos e,e,hx,Option.map_some,if_pos rfl]
  ·rw[if_neg e]
   cases dU kvs j with
   | none=>rfl
   | some x=>rw[Option.map_some,if_neg e]
 ·rw[if_neg a]
  refine lK k j y kvs ?_
  rw[gz] at a
  cases q:dU kvs k with
  | none=>rfl
  | some x=>rw[q] at a;exact(a rfl).elim
theorem eN (kvs:List (κ×V))(k: κ)(v:V):(putK kvs k v).length<=kvs.length+1:=by
 unfold putK
 split
 ·rw[Jc];omega
 ·rw[Jp,Jn,Y5];omega
theorem CT {kvs:List (κ×V)}{k: κ}(v:V)(h:dU kvs k=none):putK kvs k v=kvs++[(k,v)]:=by
 unfold putK
 rw[gz,h]
 exact if_neg (by decide)
theorem kf.lU {o:Option V}{u:Option Value}(r:kf o u):o.isSome=u.isSome:=by
 cases o with
 | none=>cases u with
  | none=>rfl
  | some _=>exact(show False from r).elim
 | some _=>cases u with
  | none=>exact(show False from r).elim
  | some _=>rfl
theorem KV.val {kvs:List (κ×V)}{vs:List (κ×Value)}(r:KV kvs vs)(k: κ):kf (dU kvs k) (valueAt vs k):=by
 unfold KV at r
 induction r with
 | nil=>exact True.intro
 | @cons p q ps qs h t ih=>
  obtain⟨h1,h2⟩:=h
  by_cases e:p.1=k
  ·have e':q.1=k:=h1.symm.trans e
   have b:valueAt (q::qs) k=some q.2:=by simp[valueAt,List.find?_cons,e']
   rw[cx e,b];exact h2
  ·have e':¬q.1=k:=fun z=>e (h1.trans z)
   have b:valueAt (q::qs) k=valueAt qs k:=by simp[valueAt,List.find?_cons,e']
   rw[cw e,b];exact ih
theorem KV.any {kvs:List (κ×V)}{vs:List (κ×Value)}(r:KV kvs vs)(k: κ):(kvs.any fun kv=>decide (kv.1=k))=vs.any fun kv=>decide (kv.1=k):=by
 unfold KV at r
 induction r with
 | nil=>rfl
 | cons h t ih=>rw[Yd,Yd,ih,h.1]
theorem KV.KO {kvs:List (κ×V)}{vs:List (κ×Value)}(r:KV kvs vs)(k: κ){y:V}{u:Value}(ry:RelV y u):
  KV (kvs.map fun kv=>if kv.1=k then (kv.1,y) else kv) (vs.map fun kv=>if kv.1=k then (kv.1,u) else kv):=by
 unfold KV at r ⊢
 induction r with
 | nil=>exact .nil
 | @cons p q ps qs h t ih=>
  rw[J0,J0]
  refine .cons ?_ ih
  obtain⟨h1,h2⟩:=h
  by_cases e:p.1=k
  ·rw[if_pos e,if_pos (h1.symm.trans e)];exact⟨h1,ry⟩
  ·rw[if_neg e,if_neg (fun z=>e (h1.trans z))];exact⟨h1,h2⟩
theorem KV.put {kvs:List (κ×V)}{vs:List (κ×Value)}(r:KV kvs vs)(k: κ){y:V}{u:Value}(ry:RelV y u):KV (putK kvs k y) (stored vs k u):=by
 unfold putK stored
 rw[r.any k]
 by_cases e:(vs.any fun kv=>decide (kv.1=k))=true
 ·rw[if_pos e,if_pos e];exact r.KO k ry
 ·rw[if_neg e,if_neg e];exact Paired.snoc r ⟨rfl,ry⟩
theorem KV.length {kvs:List (κ×V)}{vs:List (κ×Value)}(r:KV kvs vs):kvs.length=vs.length:=Paired.length r
end
theorem mx {P:Program}{w:World}{k:Key}{u:Value}(r:RelV (kV k) u):(bw P w).is k u=true:=by
 cases k with
 | inl i=>obtain⟨t,e⟩:=(show ∃t,u=Value.int i t from r);subst e;exact vt P w i t
 | inr x=>obtain⟨t,e⟩:=(show ∃t,u=Value.str x t from r);subst e;exact uw P w x t
theorem qW {P:Program}{w:World}:∀{ks:List Key} {us:List Value},Vals (ks.map kV) us->ItemsAre (bw P w) ks us
 | [],_,r=>by rw[List.map_nil] at r;cases r;exact .nil
 | k::ks,_,r=>by
  rw[J0] at r
  cases r with
  | cons h t=>exact .cons (mx h) (qW t)
abbrev KT (H:Hp):List (List Key×V)->List (List Key×Addr×Value)->Prop:=Paired fun p q=>p.1=q.1/\H q.2.1=some (.tup (p.1.map kV))/\RelV p.2 q.2.2
theorem KT.val {H:Hp}{kvs:List (List Key×V)}{xs:List (List Key×Addr×Value)}(r:KT H kvs xs)(k:List Key):kf (dU kvs k) ((atKey xs k).map (·.2)):=by
 induction r with
 | nil=>exact True.intro
 | @cons p q ps qs h t ih=>
  obtain⟨h1,_,h2⟩:=h
  by_cases e:p.1=k
  ·have e':q.1=k:=h1.symm.trans e
   have b:atKey (q::qs) k=some q.2:=by simp[atKey,List.find?_cons,e']
   rw[cx e,b];exact h2
  ·have e':¬q.1=k:=fun z=>e (h1.trans z)
   have b:atKey (q::qs) k=atKey qs k:=by simp[atKey,List.find?_cons,e']
   rw[cw e,b];exact ih
theorem KT.KO {H:Hp}{kvs:List (List Key×V)}{xs:List (List Key×Addr×Value)}(r:KT H kvs xs)(k:List Key){y:V}{u:Value}(ry:RelV y u):
  KT H (kvs.map fun kv=>if kv.1=k then (kv.1,y) else kv) (xs.map (putAt k u)):=by
 induction r with
 | nil=>exact .nil
 | @cons p q ps qs h t ih=>
  rw[J0,J0]
  refine .cons ?_ ih
  obtain⟨h1,h2,h3⟩:=h
  unfold putAt
  by_cases e:p.1=k
  ·rw[if_pos e,if_pos (h1.symm.trans e)];exact⟨h1,h2,ry⟩
  ·rw[if_neg e,if_neg (fun z=>e (h1.trans z))];exact⟨h1,h2,h3⟩
theorem KT.put {H:Hp}{kvs:List (List Key×V)}{xs:List (List Key×Addr×Value)}(r:KT H kvs xs)(k:List Key){b:Addr}{y:V}{u:Value}(hb:H b=some (.tup (k.map kV)))(ry:RelV y u):
  KT H (putK kvs k y) (storedH xs k b u):=by
 have e:(kvs.any fun kv=>decide (kv.1=k))=(atKey xs k).isSome:=by
  rw[gz,(r.val k).lU,Option.isSome_map]
 unfold putK storedH
 rw[e]
 by_cases q:(atKey xs k).isSome=true
 ·rw[if_pos q,if_pos q];exact r.KO k ry
 ·rw[if_neg q,if_neg q];exact Paired.snoc r ⟨rfl,hb,ry⟩
theorem KT.keeps {H H':Hp}{kvs:List (List Key×V)}{xs:List (List Key×Addr×Value)}(r:KT H kvs xs)(ht:∀b ys,H b=some (.tup ys)->H' b=some (.tup ys)):KT H' kvs xs:=
 Paired.MO r fun _ _ z=>⟨z.1,ht _ _ z.2.1,z.2.2⟩
section
variable {P:Program}{w:World}{H:Hp}{h:Heap}{a:Addr}
theorem Ia {u:HO}(ok:gV P w H h)(e:Rd H a u):bz P w H h a u:=e.ok ok
theorem yB {kvs:List (Key×V)}(ok:gV P w H h)(e:Rd H a (.dK kvs)):kvs.length<=sizeLine/\(a==sysModules)=false/\∃vs,KV kvs vs/\h.DictOf (bw P w) a vs:=
 show bz P w H h a (.dK kvs) from Ia ok e
theorem yW {kvs:List (Key×V)}(ok:gV P w H h)(e:H a=some (.dK kvs)):kvs.length<=sizeLine/\(a==sysModules)=false/\∃vs,KV kvs vs/\h.DictOf (bw P w) a vs:=yB ok (.inl e)
theorem rp {ks:List Key}(ok:gV P w H h)(e:H a=some (.tup (ks.map kV))):(tupleKind (bw P w)).is h ks a:=by
 obtain⟨_,au,r,o,h1,_,h2,n,h3⟩:=(show bz P w H h a (.tup (ks.map kV)) from ok a _ e)
 exact⟨o,au.toArray,n,h1,h2,h3,by simpa using qW r⟩
theorem zO {kvs:List (List Key×V)}(ok:gV P w H h)(e:Rd H a (.dT kvs)):kvs.length<=sizeLine/\(a==sysModules)=false /\
  ∃xs,KT H kvs xs/\h.DictOfH (tupleKind (bw P w)) a xs:=by
 obtain⟨z,y,xs,r,o,es,ep,h1,h2,h3,h4,h5⟩:=(show bz P w H h a (.dT kvs) from Ia ok e)
 refine⟨z,y,xs,r,o,es,ep,h1,h2,h3,h4,fun x hx =>?_,h5⟩
 have all:∀{l:List (List Key×V)} {m:List (List Key×Addr×Value)},KT H l m->∀x∈m,(tupleKind (bw P w)).is h x.1 x.2.1:=by
  intro l m q
  induction q with
  | nil=>intro x hx;exact nomatch hx
  | @cons p q ps qs hq t ih=>
   intro x hx
   rcases Jv.mp hx with e|hx
   ·subst e
    exact rp ok (by rw[<-hq.1];exact hq.2.1)
   ·exact ih x hx
 exact all r x hx
theorem Pq {kvs:List (List Key×V)}(ok:gV P w H h)(e:H a=some (.dT kvs)):kvs.length<=sizeLine/\(a==sysModules)=false /\
  ∃xs,KT H kvs xs/\h.DictOfH (tupleKind (bw P w)) a xs:=zO ok (.inl e)
end
def dz (H:Hp)(a:Addr)(y:V)(r:Option V):Prop:=
 (dS fun kvs k=>Rd H a (.dK kvs)/\y=kV k/\r=dU kvs k)∨m7 fun kvs k b=>Rd H a (.dT kvs)/\y = .ref b/\H b=some (.tup (k.map kV))/\r=dU kvs k
def pY (H:Hp)(a:Addr)(y v:V)(H':Hp):Prop:=
 (dS fun kvs k=>H a=some (.dK kvs)/\y=kV k/\kvs.length<sizeLine/\H'=upd H a (.dK (putK kvs k v))) ∨
 m7 fun kvs k b=>H a=some (.dT kvs)/\y = .ref b/\H b=some (.tup (k.map kV))/\kvs.length<sizeLine/\H'=upd H a (.dT (putK kvs k v))
theorem dz.k {H:Hp}{a:Addr}{kvs:List (Key×V)}{k:Key}(e:H a=some (.dK kvs)):dz H a (kV k) (dU kvs k) := .inl ⟨kvs,k,.inl e,rfl,rfl⟩
theorem pY.k {H:Hp}{a:Addr}{kvs:List (Key×V)}{k:Key}{v:V}(e:H a=some (.dK kvs))(hl:kvs.length<sizeLine):pY H a (kV k) v (upd H a (.dK (putK kvs k v))) := .inl ⟨kvs,k,e,rfl,hl,rfl⟩
section
variable {X:Cx}{pins:List (Addr×Obj)}{σ:St}{H:Hp}{s:Shared}{a:Addr}{y v:V}{u r:Value}{o:Option V}{A:Around}{E:Value->Shared->Prop}
theorem Inv.big (I:Inv X pins σ H s):sysModules<s.heap.objs.size:=by
 have h:mainGlobals<s.heap.objs.size:=(I.mod.glob.keeps I.bk).lt
 exact Nat.lt_trans (by decide) h
theorem BD {Q:Value->Shared->Prop}(hu:A.units+1<cLine)(I:Inv X pins σ H s)(g:dz H a y (some v))(ry:RelV y u)(h:∀w' s',Inv X pins σ H s'->RelV v w'->Q w' s'):
  wpAny (model X.prog X.w) A (getItem (.ref a) u) Q E s:=by
 rcases g with ⟨kvs,k,e,ey,l⟩|⟨kvs,k,b,e,ey,eb,l⟩
 ·subst ey
  obtain⟨z,hd,vs,rel,dd⟩:=yB I.bC e
  obtain⟨w',hw,rw'⟩:=kf.rY (v:=v) (o:=valueAt vs k) (by rw[l];exact rel.val k)
  exact wpAny_getItem_of (mx ry) dd.mapOf hw (h w' _ (I.tok _) rw')
 ·subst ey
  cases (show u=Value.ref b from ry)
  obtain⟨z,hd,xs,rel,dd⟩:=zO I.bC e
  obtain⟨w',hw,rw'⟩:=kf.rY (v:=v) (o:=(atKey xs k).map (·.2)) (by rw[l];exact rel.val k)
  obtain⟨p,hp,FO⟩:=Option.map_eq_some_iff.mp hw
  refine wpAny_getItem_heap (tupleKind_room_in1 hu) (rp I.bC eb) dd hp ?_
  rw[FO]
  exact h w' _ (I.tok _) rw'
theorem Ve {Q:Value->Shared->Prop}(hu:A.units+1<cLine)(I:Inv X pins σ H s)(g:dz H a y o)(ry:RelV y u)(h:∀s',Inv X pins σ H s'->Q (.bool o.isSome) s'):
  wpAny (model X.prog X.w) A (compareOp .In u (.ref a)) Q E s:=by
 rcases g with ⟨kvs,k,e,ey,l⟩|⟨kvs,k,b,e,ey,eb,l⟩
 ·subst ey
  obtain⟨z,hd,vs,rel,dd⟩:=yB I.bC e
  refine wpAny_in_of (mx ry) hd dd.mapOf ?_
  rw[<-(rel.val k).lU,<-l]
  exact h _ (I.tok _)
 ·subst ey
  cases (show u=Value.ref b from ry)
  obtain⟨z,hd,xs,rel,dd⟩:=zO I.bC e
  refine wpAny_in_heap (tupleKind_room_in1 hu) (rp I.bC eb) hd dd ?_
  have q:=(rel.val k).lU
  rw[Option.isSome_map] at q
  rw[<-q,<-l]
  exact h _ (I.tok _)
theorem ko {h':Heap}{t':Nat}{ob:HO}(I:Inv X pins σ H s)(mu:M3 (H a))(hs:Uz a s.heap h')(he:∃q,h'.get? a=some q)(new:bz X.prog X.w (upd H a ob) h' a ob):
  Inv X pins σ (upd H a ob) { s with heap:=h',toks:=t' }:=
 I.write (x:=a) (e:=a) mu (.inl rfl) (fun b q hb z=>(hs.2 b hb).trans z) he new
theorem xj {P:Program}{w:World}{H':Hp}{h':Heap}{kvs:List (Key×V)}{vs:List (Key×Value)}(z:kvs.length<=sizeLine)(hd:(a==sysModules)=false)(rel:KV kvs vs)(dd:h'.DictOf (bw P w) a vs):
  bz P w H' h' a (.dK kvs):=⟨z,hd,vs,rel,dd⟩
theorem B2 {H':Hp}{Q:Unit->Shared->Prop}(hu:A.units+1<cLine)(I:Inv X pins σ H s)(g:pY H a y v H')(ry:RelV y u)(rv:RelV v r)(h:∀s',Inv X pins σ H' s'->Q () s'):
  wpAny (model X.prog X.w) A (setItem (.ref a) u r) Q E s:=by
 rcases g with ⟨kvs,k,e,ey,l,eH⟩|⟨kvs,k,b,e,ey,eb,l,eH⟩
 ·subst ey eH
  obtain⟨z,hd,vs,rel,dd⟩:=yW I.bC e
  have hz:vs.length<=sizeLine:=by rw[<-rel.length];exact z
  have hl:(putK kvs k v).length<=sizeLine:=by have:=eN kvs k v;omega
  refine wpAny_setItem_pairs (hsz:=hz) (mx ry) dd fun h' dd' hs=>h _ ?_
  have he:∃q,h'.get? a=some q:=let ⟨q,_,_,hq,_⟩:=dd'; ⟨q,hq⟩
  exact ko I (by rw[e];exact True.intro) hs he (xj hl hd (rel.put k rv) dd')
 ·subst ey eH
  cases (show u=Value.ref b from ry)
  obtain⟨z,hd,xs,rel,dd⟩:=Pq I.bC e
  have hz:xs.length<=sizeLine:=by rw[<-Paired.length rel];exact z
  have hl:(putK kvs k v).length<=sizeLine:=by have:=eN kvs k v;omega
  refine wpAny_setItem_heap (hsz:=hz) (tupleKind_room_in1 hu) (rp I.bC eb) dd fun h' dd' hs=>h _ ?_
  obtain⟨q,es,ep,hq,h2,h3,h4,_,h5⟩:=dd'
  refine ko I (by rw[e];exact True.intro) hs ⟨q,hq⟩ ⟨hl,hd,_,(rel.put k eb rv).keeps fun c ys ec =>?_,q,es,ep,hq,h2,h3,h4,h5⟩
  rw[ak (IH ec e (fun z=>nomatch z))]
  exact ec
end
def Mg (i:Expr):Prop:=∀ov iv,subscripted i false ov iv=operate [ov,iv] (getItem ov iv)
theorem zN {prog:Program}{w:World}{A:Around}{E:Value->Shared->Prop}{s:Shared}{env:Env}{value slice:Expr}{pos:Pos}{T id:String}{Q:Value->Shared->Prop}
  (hl:typeLookup (.type T) "__getitem__" = pure (some (.builtin id))) (hs:Mg slice)
  (h:wpAny (model prog w) A (eval value env) (fun o s₁=>wpAny (model prog w) A (eval slice env) (fun i s₂=>s₂.TypeIs o T/\wpAny (model prog w) A (getItem o i) Q E s₂) E s₁) E s) :
  wpAny (model prog w) A (eval (.Subscript value slice pos) env) Q E s:=by
 refine Subscript_ (wpAny_mono h (fun o s₁ h₁=>wpAny_mono h₁ (fun i s₂ h₂ =>?_) fun _ _ x=>x) fun _ _ x=>x)
 obtain⟨hT,h₂⟩:=h₂
 unfold subscriptTail
 refine wpAny_bind ?_
 rw[getitemInPython_of_ne hT.not_modules]
 refine wpAny_bind (wpAny_specialOf hT hl ?_)
 have fin:wpAny (model prog w) A (subscripted slice false o i) (fun r s₃=>wpAny (model prog w) A (letTemporaryGo value o r >>= fun _=>pure r) Q E s₃) E s₂:=by
  rw[hs o i]
  exact wpAny_operating (wpAny_mono h₂ (fun r s₃ h₃=>wpAny_bind (wpAny_letTemporaryGo (wpAny_pure h₃))) fun _ _ x=>x)
 first
  | exact wpAny_pure (wpAny_bind fin)
  | exact wpAny_bind (wpAny_pure (wpAny_bind fin))
  | exact wpAny_bind fin
theorem uN {X:Cx}{pins:List (Addr×Obj)}{σ:St}{H:Hp}{s:Shared}{a:Addr}{y:V}{o:Option V}(I:Inv X pins σ H s)(g:dz H a y o):s.TypeIs (.ref a) "dict":=by
 rcases g with ⟨kvs,k,e,_,_⟩|⟨kvs,k,b,e,_,_,_⟩
 ·obtain⟨_,_,vs,_,dd⟩:=yB I.bC e
  exact dd.typeIs
 ·obtain⟨_,_,xs,_,dd⟩:=zO I.bC e
  exact dd.typeIs
def NC (td ty:TE):TE:=fun σ H Q=>td σ H fun x H1=>ty σ H1 fun y H2=>dS fun a v=>x = .ref a/\dz H2 a y (some v)/\Q v H2
def Q3 (ty td:TE):TE:=fun σ H Q=>ty σ H fun y H1=>td σ H1 fun x H2=>dS fun a o=>x = .ref a/\dz H2 a y o/\Q (.bl o.isSome) H2
def OQ (td ty tv:TE):TS:=fun D σ H=>tv σ H fun v H1=>td σ H1 fun x H2=>ty σ H2 fun y H3=>dS fun a H4=>x = .ref a/\pY H3 a y v H4/\D.nx σ H4
section
variable {X:Cx}{o i e value:Expr}{pos pos' SA:Pos}{td ty tv:TE}
theorem bM (hu:X.A.units+1<cLine)(ho:PE X o td)(hi:PE X i ty)(hs:Mg i):PE X (.Subscript o i pos) (NC td ty):=by
 intro pins s σ H Q I h
 refine zN PySem.F.slot_dict_getitem.lookup hs (bg (ho s σ H _ I h) fun u s1 hz_=>ai.el hz_ _ fun x H1 I1 rx q1=>bg (hi s1 σ H1 _ I1 q1) fun iv s2 hz_ =>?_)
 refine ai.el hz_ _ ?_
 clear hz_
 rintro y H2 I2 ry ⟨a,v,ex,g,q2⟩
 subst ex
 obtain rfl:u=Value.ref a:=rx
 exact⟨uN I2 g,BD hu I2 g ry fun w' s3 I3 rw'=>⟨v,H2,I3,rw',q2⟩⟩
theorem KG (hu:X.A.units+1<cLine)(hi:PE X i ty)(ho:PE X o td):PC X .In i o (Q3 ty td):=by
 intro pins s σ H Q I h
 refine bg (hi s σ H _ I h) fun iv s1 hz_=>ai.el hz_ _ fun y H1 I1 ry q1=>bg (ho s1 σ H1 _ I1 q1) fun u s2 hz_ =>?_
 refine ai.el hz_ _ ?_
 clear hz_
 rintro x H2 I2 rx ⟨a,ov,ex,g,q2⟩
 subst ex
 obtain rfl:u=Value.ref a:=rx
 exact Ve hu I2 g ry fun s3 I3=>⟨.bl ov.isSome,H2,I3,rfl,q2⟩
theorem rC (hu:X.A.units+1<cLine)(ho:PE X o td)(hi:PE X i ty)(hv:PE X value tv)(hs:swapsWith value (some (.Subscript o i pos')) pos.line X.env=pure false):
  PS X (.Assign [.Subscript o i pos'] value pos) (OQ td ty tv):=by
 intro pins s σ H D I h
 refine wpAny_Assign_Subscript (bg (hv s σ H _ I h) fun r s1 ⟨v,H1,I1,rv,q1⟩=>bg (ho s1 σ H1 _ I1 q1) fun u s2 ⟨x,H2,I2,rx,q2⟩=>bg (hi s2 σ H2 _ I2 q2) fun iv s3 ⟨y,H3,I3,ry,a,H4,ex,g,q3⟩=>?_) hs
 subst ex
 obtain rfl:u=Value.ref a:=rx
 exact B2 hu I3 g ry rv fun s4 I4=>⟨σ,H4,I4,q3⟩
end
theorem uK {P:Program}{w:World}{H:Hp}(h:Heap)(hb:sysModules<h.objs.size):bz P w H (h.push { cls := .type "dict",data := .dict #[] }) h.objs.size (.dK []):=
 ⟨Um _,beq_eq_false_iff_ne.mpr (Ne.symm (Jm hb)),[],.nil,Heap.DictOf.new h⟩
def nh:List (TE×TE)->St->Hp->(List (V×V)->Hp->Prop)->Prop
 | [],_,H,Q=>Q [] H
 | (tk,tv)::r,σ,H,Q=>tk σ H fun x H1=>tv σ H1 fun y H2=>nh r σ H2 fun ps H3=>Q ((x,y)::ps) H3
abbrev VV:List (V×V)->List (Value×Value)->Prop:=Paired fun p q=>RelV p.1 q.1/\RelV p.2 q.2
def N4 (X:Cx)(pos:Pos)(keys:List (Option Expr))(values:List Expr)(uC:List (TE×TE)):Prop:=
 ∀ ⦃pins:List (Addr×Obj)⦄ (s:Shared) (σ:St) (H:Hp) (Q:List (V×V)->Hp->Prop),Inv X pins σ H s->nh uC σ H Q ->
  wpAny (model X.prog X.w) X.A (evalPairs (pairTrees keys values X.env pos)) (fun vs s'=>dS fun ps H'=>Inv X pins σ H' s'/\VV ps vs/\Q ps H') X.xe s
theorem HL {X:Cx}{pos:Pos}:N4 X pos [] [] []:=fun pins s σ H Q I h=>pairTrees_nil_walk ⟨[],H,I,.nil,h⟩
theorem vc {X:Cx}{pos:Pos}{k v:Expr}{ks:List (Option Expr)}{vs:List Expr}{tk tv:TE}{uC:List (TE×TE)}(hk:PE X k tk)(hv:PE X v tv)(hr:N4 X pos ks vs uC):
  N4 X pos (some k::ks) (v::vs) ((tk,tv)::uC):=fun pins s σ H Q I h=>
 pairTrees_cons_walk (bg (hk s σ H _ I h) fun u s1 hz_=>ai.el hz_ _ fun x H1 I1 rx q1=>bg (hv s1 σ H1 _ I1 q1) fun w2 s2 ⟨y,H2,I2,ry,q2⟩=>
  bg (hr s2 σ H2 _ I2 q2) fun ws s3 hz_=>ai.el hz_ _ fun ps H3 I3 rel q3=>⟨(x,y)::ps,H3,I3,.cons ⟨rx,ry⟩ rel,q3⟩)
noncomputable def cz (kvs more:List (Key×V)):List (Key×V):=more.foldl (fun acc kv=>putK acc kv.1 kv.2) kvs
theorem KV.merge:∀{more:List (Key×V)} {rs:List (Key×Value)} {kvs:List (Key×V)} {vs:List (Key×Value)},KV more rs->KV kvs vs->KV (cz kvs more) (merged vs rs):=by
 intro more rs kvs vs r
 unfold KV at r
 induction r generalizing kvs vs with
 | nil=>intro q;exact q
 | @cons p q ps qs h t ih=>
  intro r0
  have e:KV (putK kvs p.1 p.2) (stored vs q.1 q.2):=by
   have:=r0.put p.1 h.2
   rw[<-h.1];exact this
  exact ih e
theorem de:∀(more kvs:List (Key×V)),(cz kvs more).length<=kvs.length+more.length
 | [],kvs=>by show kvs.length<=kvs.length+0;omega
 | p::r,kvs=>by
  have h1:=de r (putK kvs p.1 p.2)
  have h2:=eN kvs p.1 p.2
  show(cz (putK kvs p.1 p.2) r).length<=_
  rw[Jn];omega
theorem pA {P:Program}{w:World}:∀{kvs:List (Key×V)} {ws:List (Value×Value)},VV (kvs.map fun kv=>(kV kv.1,kv.2)) ws->∃rs,Carries (bw P w) ws rs/\KV kvs rs
 | [],_,r=>by rw[List.map_nil] at r;cases r;exact⟨[],True.intro,.nil⟩
 | p::kvs,_,r=>by
  rw[J0] at r
  cases r with
  | @cons a b as bs h t=>
   obtain⟨rs,c,q⟩:=pA (P:=P) (w:=w) t
   obtain⟨b1,b2⟩:=b
   exact⟨(p.1,b2)::rs,⟨mx h.1,rfl,c⟩,.cons ⟨rfl,h.2⟩ q⟩
def Dc (uC:List (TE×TE)):TE:=fun σ H Q=>∀p,H p=none->nh uC σ (upd H p (.dK [])) fun ps H2=>H2 p=some (.dK [])/\∃kvs:List (Key×V),ps=kvs.map (fun kv=>(kV kv.1,kv.2))/\kvs.length<=15/\Q (.ref p) (upd H2 p (.dK (cz [] kvs)))
theorem G6 {X:Cx}{pos:Pos}{keys:List (Option Expr)}{values:List Expr}{uC:List (TE×TE)}(h:N4 X pos keys values uC)(iR:keys.all (·.isSome)=true)(hl:keys.length=values.length)(h0:keys≠[])
  (TH:keys.length<=15):PE X (.Dict keys values pos) (Dc uC):=by
 intro pins s σ H Q I q
 have hn:=I.bC.fresh (Je s.heap.objs.size)
 have I1:=I.laid (a:=s.heap.objs.size) (o := .dK []) (h':=s.heap.push { cls := .type "dict",data := .dict #[] }) (t':=s.toks) (fun _ _ q=>Jb _ q) (Je _) (uK s.heap I.big)
 refine wpAny_Dict_walk (knd:=bw X.prog X.w) iR hl h0 TH (bg (h _ σ _ _ I1 (q _ hn)) fun ws s2 hz_=>ai.el hz_ _ fun ps H2 I2 rel e kvs ep lk q2 =>?_)
 subst ep
 obtain⟨rs,c,rk⟩:=pA (P:=X.prog) (w:=X.w) rel
 obtain⟨z,hd,vs0,r0,dd⟩:=yW I2.bC e
 cases r0
 refine⟨rs,c,dd,fun h' dd' hs=>⟨.ref s.heap.objs.size,_,?_,rfl,q2⟩⟩
 have hz:(cz [] kvs).length<=sizeLine:=by
  have h1:=de kvs []
  rw[Y5] at h1
  rw[sizeLine_eq];omega
 have he:∃q,h'.get? s.heap.objs.size=some q:=let ⟨q,_,_,hq,_⟩:=dd'; ⟨q,hq⟩
 exact ko I2 (by rw[e];exact True.intro) hs he (xj hz hd (rk.merge .nil) dd')
end L2
namespace HT
open PySem PyProof.Rows
section
variable {prog:Program}{w:World}{A:Around}{E:Value->Shared->Prop}{s:Shared}
noncomputable def cP (n d:Nat):Option Int->Nat
 | none=>d
 | some v=>if v<0 then (v+(n:Int)).toNat else min v.toNat n
theorem uJ (n d:Nat):cP n d none=d:=rfl
theorem fM (n d k:Nat):cP n d (some (k:Int))=min k n:=by
 show(if (k:Int)<0 then ((k:Int)+(n:Int)).toNat else min (k:Int).toNat n)=min k n
 rw[if_neg (by omega),Yv]
theorem LI (n d:Nat)(hd:d<=n)(o:Option Int):cP n d o<=n:=by
 cases o with
 | none=>exact hd
 | some v=>
  show(if v<0 then (v+(n:Int)).toNat else min v.toNat n)<=n
  by_cases hv:v<0
  ·rw[if_pos hv];omega
  ·rw[if_neg hv];exact Nat.min_le_right _ _
theorem za (v:Int)(n d:Nat):(if v<0 then max (v+(n:Int)) 0 else min v (n:Int))=((cP n d (some v):Nat):Int):=by
 show(if v<0 then max (v+(n:Int)) 0 else min v (n:Int))=(((if v<0 then (v+(n:Int)).toNat else min v.toNat n):Nat):Int)
 by_cases hv:v<0
 ·simp only[if_pos hv];omega
 ·simp only[if_neg hv];omega
theorem wL (lo hi:Option Int)(n:Nat):Builtin.Slice.sliceAdjust lo hi 1 (n:Int)=(((cP n 0 lo:Nat):Int),((cP n n hi:Nat):Int)):=by
 have h1:¬((1:Int)<0):=by omega
 unfold Builtin.Slice.sliceAdjust
 simp only[h1,if_false]
 refine Prod.ext ?_ ?_
 ·cases lo with
  | none=>rfl
  | some v=>exact za v n 0
 ·cases hi with
  | none=>rfl
  | some v=>exact za v n n
theorem wV (i j:Nat):Builtin.Slice.slicePlaces (i:Int) (j:Int) 1=j-i:=by
 unfold Builtin.Slice.slicePlaces
 have h1:(1:Int)>0:=by omega
 simp only[h1,if_true,Int.ediv_one]
 split<;>omega
theorem pE {v:Value}{o:Option Int}{Q:Option Int->Shared->Prop}(p:IsPart v o)(h:Q o s):wpAny (model prog w) A (Builtin.Slice.slicePartIndex v) Q E s:=by
 cases p with
 | none=>exact slicePart_none h
 | int i t=>exact slicePart_int h
theorem lA {sl:Addr}{vl vu:Value}{lo hi:Option Int}{n:Nat}{Q:Int×Int×Nat->Shared->Prop}(hs:s.heap.IsSliceOf sl vl vu .none)(pl:IsPart vl lo)(pu:IsPart vu hi)
  (h:Q (((cP n 0 lo:Nat):Int),1,cP n n hi-cP n 0 lo) s):wpAny (model prog w) A (Builtin.Slice.sliceApplied (.ref sl) (pure (n:Int))) Q E s:=by
 obtain⟨os,hos,Ck,hds⟩:=id hs
 unfold Builtin.Slice.sliceApplied Builtin.Slice.sliceFields
 refine wpAny_bind (wpAny_bind (wpAny_field hos hds (x:=vl) rfl (wpAny_bind (wpAny_field hos hds (x:=vu) rfl (wpAny_bind (wpAny_field hos hds (x := .none) rfl (wpAny_pure ?_)))))))
 refine wpAny_bind (slicePart_none ?_)
 show wpAny _ _ (if ((1:Int)==0)=true then _ else _) _ _ s
 rw[if_neg (by decide)]
 refine wpAny_bind (pE pl (wpAny_bind (pE pu (wpAny_bind (wpAny_pure ?_)))))
 show wpAny _ _ (match Builtin.Slice.sliceAdjust lo hi 1 (n:Int) with|(lo,hi)=>pure (lo,(1:Int),Builtin.Slice.slicePlaces lo hi 1)) _ _ s
 rw[wL lo hi n]
 show wpAny _ _ (pure (((cP n 0 lo:Nat):Int),(1:Int),Builtin.Slice.slicePlaces ((cP n 0 lo:Nat):Int) ((cP n n hi:Nat):Int) 1)) _ _ s
 rw[wV]
 exact wpAny_pure h
theorem Eo (xs:Array Value)(i k:Nat):((Uy k).filterMap fun(m:Nat)=>xs[((i:Int)+(m:Int)*1).toNat]?).toArray=((xs.toList.drop i).take k).toArray:=by
 have e:(fun(m:Nat)=>xs[((i:Int)+(m:Int)*1).toNat]?)=fun m=>xs[i+m]?:=by
  funext m
  have:((i:Int)+(m:Int)*1).toNat=i+m:=by omega
  rw[this]
 rw[e]
 have:=pick_run xs i k
 rw[List.filterMap_map] at this
 have e2:((fun x=>xs[x]?)∘fun x=>i+x)=fun m=>xs[i+m]?:=rfl
 rw[e2] at this
 rw[this]
theorem kU {t sl:Addr}{items:Array Value}{vl vu:Value}{lo hi:Option Int}{Q:Value->Shared->Prop}(ht:IsTup s.heap t items)(hs:s.heap.IsSliceOf sl vl vu .none)(pl:IsPart vl lo)(pu:IsPart vu hi)
  (hw:¬(cP items.size 0 lo=0/\cP items.size items.size hi=items.size))
  (h:Q (.ref s.heap.objs.size) { s with heap:=s.heap.push { cls := .type "tuple",data := .seq ((items.toList.drop (cP items.size 0 lo)).take (cP items.size items.size hi-cP items.size 0 lo)).toArray } })
  (hsz:items.size<=sizeLine):wpAny (model prog w) A (getItem (.ref t) (.ref sl)) Q E s:=by
 have yN:sizeOk (.seq ((items.toList.drop (cP items.size 0 lo)).take (cP items.size items.size hi-cP items.size 0 lo)).toArray):=by
  show((items.toList.drop (cP items.size 0 lo)).take (cP items.size items.size hi-cP items.size 0 lo)).toArray.size<=sizeLine
  rw[Js,Uq,Y8,Uo]
  omega
 have hj:cP items.size items.size hi<=items.size:=LI _ _ (Je _) hi
 obtain⟨os,hos,Ck,hds⟩:=id hs
 have X6:s.TypeIs (.ref sl) "slice":=⟨os,hos,Ck⟩
 unfold getItem
 try with_reducible refine wpAny_holding ?_
 first|refine wpAny_bind (wpAny_pure ?_)|skip
 refine wpAny_bind (wpAny_sequenceKey ht.typeIs (by decide) ?_)
 refine wpAny_bind (wpAny_callSpecial?_slot (name:=Str.ofString "__getitem__") ht.typeIs PyProof.Rows.slot_tuple_getitem
  (wpAny_call_entry PyProof.Rows.slot_tuple_getitem ht.typeIs entry_tuple_getitem ?_ (args_tuple_getitem _ _)))
 show wpAny _ _ (Builtin.Tuple.tupleItemsOf (.ref t) >>= _) _ _ s
 refine wpAny_bind (tupleItemsOf_ ht ?_)
 refine wpAny_bind (wpAny_typeOf X6 ?_)
 rw[if_pos (by decide)]
 refine wpAny_bind (lA hs pl pu ?_)
 have W2:¬((((cP items.size 0 lo:Nat):Int)==0&&(1:Int)==1&&(cP items.size items.size hi-cP items.size 0 lo)==items.size)=true):=by
  intro q
  rw[Jx,Jx] at q
  have q1:((cP items.size 0 lo:Nat):Int)=0:=eq_of_beq q.1.1
  have q2:cP items.size items.size hi-cP items.size 0 lo=items.size:=eq_of_beq q.2
  exact hw ⟨by omega,by omega⟩
 show wpAny _ _ (if (((cP items.size 0 lo:Nat):Int)==0&&(1:Int)==1&&(cP items.size items.size hi-cP items.size 0 lo)==items.size)=true then _ else _) _ _ s
 rw[if_neg W2,Eo]
 first
  | exact wpAny_bind (m:=Builtin.Tuple.tupleExact _) (wpAny_newObj_type (wpAny_pure ⟨_,rfl,wpAny_pure h⟩) yN)
  | exact wpAny_bind (m:=Builtin.Tuple.tupleExact _) (wpAny_newObj_type (wpAny_bind (wpAny_pure (wpAny_pure ⟨_,rfl,wpAny_pure h⟩))) yN)
  | exact wpAny_bind (wpAny_bind (m:=Builtin.Tuple.tupleExact _) (wpAny_newObj_type (wpAny_pure (wpAny_pure ⟨_,rfl,wpAny_pure h⟩)) yN))
  | exact wpAny_bind (wpAny_bind (m:=Builtin.Tuple.tupleExact _) (wpAny_newObj_type (wpAny_pure ⟨_,rfl,wpAny_pure h⟩) yN))
end
end HT
namespace L2
open PySem PySem.Spec PyProof.Rows
abbrev TO:=St->Hp->(Option Int->Hp->Prop)->Prop
def PO (X:Cx)(e:Option Expr)(t:TO):Prop:=
 ∀ ⦃pins:List (Addr×Obj)⦄ (s:Shared) (σ:St) (H:Hp) (Q:Option Int->Hp->Prop),Inv X pins σ H s->t σ H Q ->
  wpAny (model X.prog X.w) X.A (evalPart e X.env) (fun u s'=>dS fun o H'=>Inv X pins σ H' s'/\IsPart u o/\Q o H') X.xe s
noncomputable def Gw:TO:=fun _ H Q=>Q none H
noncomputable def OH (t:TE):TO:=fun σ H Q=>t σ H fun x H1=>∃i,x = .int i/\Q (some i) H1
section
variable {X:Cx}{e:Expr}{te:TE}{lo hi:Option Expr}{tl th:TO}{pos p2:Pos}
theorem gI:PO X none Gw:=by
 intro pins s σ H Q I h
 rw[evalPart_none]
 exact wpAny_pure ⟨none,H,I,.none,h⟩
theorem cF (h:PE X e te):PO X (some e) (OH te):=by
 intro pins s σ H Q I hw
 rw[evalPart_some]
 refine bg (h s σ H _ I hw) fun u s1 hz_ =>?_
 refine ai.el hz_ _ ?_
 clear hz_
 rintro x H1 I1 r1 q1
 obtain⟨i,rfl,q⟩:=q1
 obtain⟨t,rfl⟩:=r1
 exact⟨some i,H1,I1,.int i t,q⟩
def Cn (X:Cx)(r:V->Option Int->Option Int->Hp->VK->Prop):Prop:=
 ∀ ⦃pins:List (Addr×Obj)⦄ (s:Shared) (σ:St) (H:Hp) (x:V) (v vl vu:Value) (lo hi:Option Int) (sl:Addr) (Q:VK),Inv X pins σ H s->RelV x v->s.heap.IsSliceOf sl vl vu .none->IsPart vl lo->IsPart vu hi->r x lo hi H Q ->
  dS fun T id=>typeLookup (.type T) "__getitem__" = pure (some (.builtin id))/\s.TypeIs v T/\wpAny (model X.prog X.w) X.A (getItem v (.ref sl)) (EP X pins σ Q) X.xe s
theorem Cn.or {r r':V->Option Int->Option Int->Hp->VK->Prop}(h:Cn X r)(h':Cn X r'):Cn X (fun x lo hi H Q=>r x lo hi H Q∨r' x lo hi H Q):=by
 intro pins s σ H x v vl vu lo hi sl Q I rx hs pl pu q
 rcases q with q|q
 ·exact h s σ H x v vl vu lo hi sl Q I rx hs pl pu q
 ·exact h' s σ H x v vl vu lo hi sl Q I rx hs pl pu q
def XO (r:V->Option Int->Option Int->Hp->VK->Prop)(te:TE)(tl th:TO):TE:=fun σ H Q=>te σ H fun x H1=>tl σ H1 fun l H2=>th σ H2 fun u H3=>r x l u H3 Q
theorem da {r:V->Option Int->Option Int->Hp->VK->Prop}(hr:Cn X r)(he:PE X e te)(hl:PO X lo tl)(hu:PO X hi th):PE X (.Subscript e (.Slice lo hi none p2) pos) (XO r te tl th):=by
 intro pins s σ H Q I h
 refine Subscript_ (bg (he s σ H _ I h) fun v s1 hz_ =>?_)
 refine ai.el hz_ _ ?_
 clear hz_
 rintro x H1 I1 r1 q1
 refine wpAny_Slice (bg (hl s1 σ H1 _ I1 q1) fun vl s2 hz_=>ai.el hz_ _ fun l H2 I2 pl q2=>bg (hu s2 σ H2 _ I2 q2) fun vu s3 hz_ =>?_)
 refine ai.el hz_ _ ?_
 clear hz_
 rintro u H3 I3 pu q3
 rw[evalPart_none]
 refine wpAny_pure ?_
 have I4:Inv X pins σ H3 { s3 with heap:=s3.heap.push { cls := .type "slice",data := .fields #[vl,vu,.none] } }:=I3.kept (t':=s3.toks) fun b ob q=>Jb _ q
 obtain⟨T,id,hT,ht,hg⟩:=hr { s3 with heap:=s3.heap.push { cls := .type "slice",data := .fields #[vl,vu,.none] } } σ H3 x v vl vu l u s3.heap.objs.size Q I4 r1 (Heap.IsSliceOf.new ..) pl pu q3
 show wpAny (model X.prog X.w) X.A (subscriptTail e (.Slice lo hi none p2) v (.ref s3.heap.objs.size)) (EP X pins σ Q) X.xe { s3 with heap:=s3.heap.push { cls := .type "slice",data := .fields #[vl,vu,.none] } }
 exact tail_any (ops:=[.ref s3.heap.objs.size,v]) ht hT hg (by with_unfolding_all rfl)
noncomputable def ie (xs:List V)(lo hi:Option Int):List V:=(xs.drop (HT.cP xs.length 0 lo)).take (HT.cP xs.length xs.length hi-HT.cP xs.length 0 lo)
theorem mj (xs:List V)(lo hi:Option Int):(ie xs lo hi).length<=xs.length:=by
 unfold ie
 rw[Uq,Y8]
 omega
def Tf (K:Ja):V->Option Int->Option Int->Hp->VK->Prop:=fun x lo hi H Q=>dS fun a xs=>x = .ref a/\br K H a xs /\
 ¬(HT.cP xs.length 0 lo=0/\HT.cP xs.length xs.length hi=xs.length)/\∀p,H p=none->Q (.ref p) (upd H p (.tup (ie xs lo hi)))
theorem L3:Cn X (Tf X.K):=by
 intro pins s σ H x v vl vu lo hi sl Q I rx hs pl pu h
 obtain⟨a,xs,rfl,hx,hw,q⟩:=h
 cases rx
 obtain⟨au,r,ht,hz⟩:=I.tuple hx
 have hlen:au.toArray.size=xs.length:=by rw[Js];exact r.length.symm
 refine⟨"tuple",_,PyProof.Rows.slot_tuple_getitem.lookup,ht.typeIs,?_⟩
 refine HT.kU ht hs pl pu (by rw[hlen];exact hw) ?_ (by rw[hlen];exact hz)
 rw[hlen]
 refine⟨.ref s.heap.objs.size,_,I.laid (t':=s.toks) (o := .tup (ie xs lo hi)) (fun b ob q=>Jb _ q) (Je _) ?_,rfl,q _ (I.bC.fresh (Je _))⟩
 exact⟨Jh (mj xs lo hi) hz,_,(r.drop (HT.cP xs.length 0 lo)).take (HT.cP xs.length xs.length hi-HT.cP xs.length 0 lo),sV.new _ _⟩
end
noncomputable def AN (n:Nat)(i:Int):Option Nat:=if 0<=i then (if i<n then some i.toNat else none) else if -(n:Int)<=i then some (i+n).toNat else none
noncomputable def we {α:Type}(xs:List α)(i:Int):Option α:=(AN xs.length i).bind fun j=>xs[j]?
theorem rV {n:Nat}{i:Int}{j:Nat}(h:AN n i=some j):seqIndex? i n=some j/\j<n /\ -(n:Int)<=i/\i<n:=by
 unfold AN at h
 by_cases h0:0<=i
 ·rw[if_pos h0] at h
  by_cases h1:i<n
  ·rw[if_pos h1] at h
   have e:i.toNat=j:=Option.some.inj h
   exact⟨by rw[seqIndex_of h0 h1,e],by omega,by omega,h1⟩
  ·rw[if_neg h1] at h;cases h
 ·rw[if_neg h0] at h
  by_cases h1: -(n:Int)<=i
  ·rw[if_pos h1] at h
   have e:(i+n).toNat=j:=Option.some.inj h
   exact⟨by rw[seqIndex_neg (by omega) h1,e],by omega,h1,by omega⟩
  ·rw[if_neg h1] at h;cases h
theorem mK {α:Type}{xs:List α}{i:Int}{v: α}(h:we xs i=some v):∃j,seqIndex? i xs.length=some j/\xs[j]? = some v/\j<xs.length /\ -(xs.length:Int)<=i/\i<xs.length:=by
 unfold we at h
 cases e:AN xs.length i with
 | none=>rw[e] at h;cases h
 | some j=>
  rw[e] at h
  obtain⟨h1,h2,h3,h4⟩:=rV e
  exact⟨j,h1,h,h2,h3,h4⟩
theorem j9 {α:Type}{xs:List α}{j:Nat}{v: α}(h:xs[j]? = some v):we xs (j:Int)=some v:=by
 have hj:j<xs.length:=(Jt.mp h).1
 have e:AN xs.length (j:Int)=some j:=by
  unfold AN
  rw[if_pos (by omega),if_pos (by omega)];simp
 unfold we;rw[e];exact h
def HA (b:Expr):Prop:=∀o i,subscripted b false o i=operate [o,i] (getItem o i)
def Fe (X:Cx)(r:R2):Prop:=
 ∀ ⦃value slice:Expr⦄ ⦃pins:List (Addr×Obj)⦄ (s:Shared) (σ:St) (H:Hp) (x y:V) (v u:Value) (Q:VK),Inv X pins σ H s->RelV x v->RelV y u->r x y H Q ->
  subscripted slice false v u=operate [v,u] (getItem v u)->wpAny (model X.prog X.w) X.A (subscriptTail value slice v u) (EP X pins σ Q) X.xe s
def Fg (X:Cx)(id:String)(r:V->List V->Hp->VK->Prop):Prop:=
 ∀ ⦃pins:List (Addr×Obj)⦄ (s:Shared) (σ:St) (H:Hp) (x:V) (xs:List V) (v:Value) (us:List Value) (Q:VK),Inv X pins σ H s->RelV x v->Vals xs us->r x xs H Q ->
  wpAny (model X.prog X.w) X.A (call (.builtin id) (v::us)) (EP X pins σ Q) X.xe s
section
variable {X:Cx}{a b:Expr}{ta tb:TE}{pos:Pos}
theorem Fe.or {r r':R2}(h:Fe X r)(h':Fe X r'):Fe X (fun x y H Q=>r x y H Q∨r' x y H Q):=by
 intro value slice pins s σ H x y v u Q I rx ry q hs
 rcases q with q|q
 ·exact h s σ H x y v u Q I rx ry q hs
 ·exact h' s σ H x y v u Q I rx ry q hs
theorem bp {r:R2}(hr:Fe X r)(ha:PE X a ta)(hb:PE X b tb)(hs:HA b):PE X (.Subscript a b pos) (PY r ta tb):=by
 intro pins s σ H Q I h
 exact Subscript_ (Ki ha hb I h fun v u s2 x y H2 I2 rx ry q=>hr s2 σ H2 x y v u Q I2 rx ry q (hs _ _))
def OU (K:Ja):R2:=fun x y H Q=>qi fun p xs i v=>x = .ref p/\y = .int i/\bb K H p xs/\we xs i=some v/\Q v H
def Oc (K:Ja):R2:=fun x y H Q=>qi fun p xs i v=>x = .ref p/\y = .int i/\br K H p xs/\we xs i=some v/\Q v H
def PV:R2:=fun x y H Q=>m7 fun z i c=>x = .str z/\y = .int i/\z.length<=sizeLine/\we z.cps.toList i=some c/\Q (.str ⟨#[c]⟩) H
theorem Gx:Fe X (OU X.K):=by
 intro value slice pins s σ H x y v u Q I rx ry h hs
 obtain⟨p,xs,i,z,rfl,rfl,hq,he,q⟩:=h
 cases rx
 obtain⟨t,rfl⟩:=ry
 obtain⟨au,r,pl,hz⟩:=I.list hq
 obtain⟨j,h1,h2,h3,h4,h5⟩:=mK he
 obtain⟨w,ew,rw'⟩:=r.get h2
 have hl:=r.length
 have hn:=oy
 have fin:EP X pins σ Q w s:=⟨z,H,I,rw',q⟩
 by_cases h0:0<=i
 ·have hj:i.toNat=j:=by
   rw[seqIndex_of h0 h5] at h1
   exact Option.some.inj h1
  exact item_listR pl.isList h0 (by omega) (by rw[hj];simpa using ew) fin hs
 ·have hj:(i+(au.toArray.size:Int)).toNat=j:=by
   rw[seqIndex_neg (by omega) h4] at h1
   rw[Js,<-hl]
   exact Option.some.inj h1
  exact subscriptTail_builtinR (x:=w) pl.isList.typeIs slot_list_getitem.lookup
   (wpAny_getItem_list_neg (Q:=fun r s'=>r=w/\EP X pins σ Q r s') pl.isList (by omega) (by rw[Js]<;>omega) (by omega) (by rw[hj];simpa using ew) ⟨rfl,fin⟩) hs
theorem Lz:Fe X (Oc X.K):=by
 intro value slice pins s σ H x y v u Q I rx ry h hs
 obtain⟨p,xs,i,z,rfl,rfl,hq,he,q⟩:=h
 cases rx
 obtain⟨t,rfl⟩:=ry
 obtain⟨au,r,pl,hz⟩:=I.tuple hq
 obtain⟨j,h1,h2,h3,h4,h5⟩:=mK he
 obtain⟨w,ew,rw'⟩:=r.get h2
 have hl:=r.length
 have hn:=oy
 have fin:EP X pins σ Q w s:=⟨z,H,I,rw',q⟩
 exact subscriptTail_builtinR (x:=w) pl.typeIs slot_tuple_getitem.lookup
  (getItem_tuple (j:=j) (Q:=fun r s'=>r=w/\EP X pins σ Q r s') pl (by omega) (by omega) (by rw[Js,<-hl];exact h1) (by simpa using ew) ⟨rfl,fin⟩) hs
theorem KP:Fe X PV:=by
 intro value slice pins s σ H x y v u Q I rx ry h hs
 obtain⟨z,i,c,rfl,rfl,hz,he,q⟩:=h
 obtain⟨t,rfl⟩:=rx
 obtain⟨t',rfl⟩:=ry
 obtain⟨j,h1,h2,h3,h4,h5⟩:=mK he
 have hl:z.cps.toList.length=z.length:=by simp[Str.length]
 rw[hl] at h1 h4 h5
 have hn:=oy
 exact tail_any (typeIs_str s z t) slot_str_getitem.lookup (getItem_str (c:=c) (by
  have e1:decide (i < -(2^63:Int))=false:=decide_eq_false (by omega)
  have e2:decide (i>=2^63)=false:=decide_eq_false (by omega)
  rw[e1,e2,Bool.or_false]) (by rw[h1];simpa using h2) ⟨.str ⟨#[c]⟩,H,I.tok _,⟨_,rfl⟩,q⟩) hs
def Wk (K:Ja):R2:=fun x y H Q=>OU K x y H Q∨Oc K x y H Q∨PV x y H Q
theorem IZ:Fe X (Wk X.K):=Gx.or (Lz.or KP)
theorem xw (au:List Value)(n j:Nat)(u:Value):Obj.mapSeq (·.setIfInBounds j u) { cls := .type "list",data := .seq au.toArray n } = { cls := .type "list",data := .seq (au.set j u).toArray n }:=by
 simp[Obj.mapSeq]
theorem Inv.lst {pins:List (Addr×Obj)}{σ:St}{H:Hp}{s:Shared}{p:Addr}{xs:List V}(I:Inv X pins σ H s)(h:H p=some (.lst xs)):
  ∃(au:List Value) (n:Nat),Vals xs au/\s.heap.get? p=some { cls := .type "list",data := .seq au.toArray n } /\ xs.length<=sizeLine:=by
 obtain⟨z,au,n,r,e⟩:=I.bC p _ h
 exact⟨au,n,r,e,z⟩
theorem Inv.K8 {pins:List (Addr×Obj)}{σ:St}{H:Hp}{s:Shared}{p:Addr}{xs ys:List V}{au its':List Value}{n n':Nat}{f:Obj->Obj}(I:Inv X pins σ H s)(h:H p=some (.lst xs))
  (ho:s.heap.get? p=some { cls := .type "list",data := .seq au.toArray n }) (hf:f { cls := .type "list",data := .seq au.toArray n } = { cls := .type "list",data := .seq its'.toArray n' }) (r:Vals ys its') (hz:ys.length<=sizeLine) (t:Nat) :
  Inv X pins σ (upd H p (.lst ys)) { s with heap:=s.heap.update p f,toks:=t }:=by
 have e:(s.heap.update p f).get? p=some { cls := .type "list",data := .seq its'.toArray n' }:=by
  rw[J3 f ho (by rw[hf]<;>rfl),hf]
 refine I.write (x:=p) (e:=p) (by rw[h];trivial) (.inl rfl) (fun b u hb q=>(J5 _ _ (Ne.symm hb)).trans q) ⟨_,e⟩ ?_
 exact⟨hz,its',n',r,e⟩
def Nw:V->V->V->Hp->(Hp->Prop)->Prop:=fun o i v H Q=>qi fun p xs k j=>o = .ref p/\i = .int k/\H p=some (.lst xs)/\AN xs.length k=some j/\Q (upd H p (.lst (xs.set j v)))
theorem set_list:NW X Nw:=by
 intro pins s σ H o i v ov iv u Q I ro ri rv h
 obtain⟨p,xs,k,j,rfl,rfl,hp,hj,q⟩:=h
 cases ro
 obtain⟨t,rfl⟩:=ri
 obtain⟨au,n,r,ho,hz⟩:=I.lst hp
 obtain⟨h1,h2,h3,h4⟩:=rV hj
 have hl:=r.length
 have hn:=oy
 have I':Inv X pins σ (upd H p (.lst (xs.set j v))) { s with heap:=s.heap.update p (Obj.mapSeq (·.setIfInBounds j u)) }:=
  I.K8 hp ho (xw au n j u) (r.set rv j) (by rw[Y6];exact hz) s.toks
 by_cases h0:0<=k
 ·have hk:k.toNat=j:=by
   rw[seqIndex_of h0 h4] at h1
   exact Option.some.inj h1
  exact PySem.W.ki_setAt ho h0 (by omega) (by rw[Js,<-hl];exact h4) (by rw[hk];exact⟨_,I',q⟩)
 ·have hk:(k+(au.toArray.size:Int)).toNat=j:=by
   rw[seqIndex_neg (by omega) h3] at h1
   rw[Js,<-hl]
   exact Option.some.inj h1
  exact PySem.W.ki_setBack ho (by omega) (by rw[Js,<-hl];exact h3) (by omega) (by rw[hk];exact⟨_,I',q⟩)
theorem sv (lo hi:Option Int)(n:Nat):(sliceBounds lo hi none n).1=((HT.cP n 0 lo:Nat):Int)/\(sliceBounds lo hi none n).2.1=((HT.cP n n hi:Nat):Int)/\(sliceBounds lo hi none n).2.2=1:=by
 refine⟨?_,?_,rfl⟩
 ·cases lo with
  | none=>simp[sliceBounds,HT.cP]
  | some i=>
   simp only[sliceBounds,HT.cP,Option.getD_none,show(1:Int)>0 by decide,if_true]
   by_cases h:i<0
   ·simp only[h,if_true]<;>omega
   ·simp only[h,if_false]<;>omega
 ·cases hi with
  | none=>simp[sliceBounds,HT.cP]
  | some i=>
   simp only[sliceBounds,HT.cP,Option.getD_none,show(1:Int)>0 by decide,if_true]
   by_cases h:i<0
   ·simp only[h,if_true]<;>omega
   ·simp only[h,if_false]<;>omega
theorem pS (au:List Value)(lo hi:Option Int):slicePick au.toArray lo hi none=((au.drop (HT.cP au.length 0 lo)).take (HT.cP au.length au.length hi-HT.cP au.length 0 lo)).toArray:=by
 obtain⟨h1,h2,h3⟩:=sv lo hi au.toArray.size
 unfold slicePick
 rw[h1,h2,h3]
 simp only[sliceRange_one,pick_run,Js]<;>rfl
def Li (K:Ja):V->Option Int->Option Int->Hp->VK->Prop:=fun x lo hi H Q=>dS fun a xs=>x = .ref a/\bb K H a xs/\∀p,H p=none->Q (.ref p) (upd H p (.lst (ie xs lo hi)))
theorem Gv:Cn X (Li X.K):=by
 intro pins s σ H x v vl vu lo hi sl Q I rx hs pl pu h
 obtain⟨a,xs,rfl,hx,q⟩:=h
 cases rx
 obtain⟨au,r,ht,hz⟩:=I.list hx
 have hlen:=r.length
 refine⟨"list",_,slot_list_getitem.lookup,ht.isList.typeIs,?_⟩
 refine wpAny_getItem_list_slice ht.isList hs pl pu .none (by simp) ?_ (by rw[Js]<;>omega)
 rw[pS,<-hlen]
 refine⟨.ref s.heap.objs.size,_,I.laid (t':=s.toks) (o := .lst (ie xs lo hi)) (fun b ob q=>Jb _ q) (Je _) ?_,rfl,q _ (I.bC.fresh (Je _))⟩
 exact⟨Jh (mj xs lo hi) hz,_,0,(r.drop (HT.cP xs.length 0 lo)).take (HT.cP xs.length xs.length hi-HT.cP xs.length 0 lo),Jk _ rfl⟩
noncomputable def l4:V->Bool
 | .non=>true
 | .bl _=>true
 | .int _=>true
 | .str _=>true
 | _=>false
noncomputable def Dz:V->V->Bool
 | .non,.non=>true
 | .bl a,.bl b=>a==b
 | .bl a,.int b=>(if a then 1 else 0)==b
 | .int a,.bl b=>a==(if b then 1 else 0)
 | .int a,.int b=>a==b
 | .str a,.str b=>a==b
 | _,_=>false
theorem LO {A:Around}{s:Shared}{y x:V}{u v:Value}(ry:RelV y u)(rx:RelV x v)(fy:l4 y=true)(fx:l4 x=true):SeqAt.EqAt A s u v (Dz y x):=by
 cases y with
 | non=>
  cases ry
  cases x with
  | non=>cases rx;exact SeqAt.EqAt.same _
  | bl b=>cases rx;exact SeqAt.EqAt.none_bool b
  | int b=>obtain⟨t,rfl⟩:=rx;exact SeqAt.EqAt.none_int b t
  | str b=>obtain⟨t,rfl⟩:=rx;exact SeqAt.EqAt.none_str b t
  | _=>exact absurd (show false=true from fx) Jl
 | bl a=>
  cases ry
  cases x with
  | non=>cases rx;exact SeqAt.EqAt.bool_none a
  | bl b=>cases rx;exact SeqAt.EqAt.bool_bool a b
  | int b=>obtain⟨t,rfl⟩:=rx;exact SeqAt.EqAt.bool_int a b t
  | str b=>obtain⟨t,rfl⟩:=rx;exact SeqAt.EqAt.bool_str a b t
  | _=>exact absurd (show false=true from fx) Jl
 | int a=>
  obtain⟨t',rfl⟩:=ry
  cases x with
  | non=>cases rx;exact SeqAt.EqAt.int_none a t'
  | bl b=>cases rx;exact SeqAt.EqAt.int_bool a t' b
  | int b=>obtain⟨t,rfl⟩:=rx;exact SeqAt.EqAt.int_int a t' b t
  | str b=>obtain⟨t,rfl⟩:=rx;exact SeqAt.EqAt.int_str a t' b t
  | _=>exact absurd (show false=true from fx) Jl
 | str a=>
  obtain⟨t',rfl⟩:=ry
  cases x with
  | non=>cases rx;exact SeqAt.EqAt.str_none a t'
  | bl b=>cases rx;exact SeqAt.EqAt.str_bool a t' b
  | int b=>obtain⟨t,rfl⟩:=rx;exact SeqAt.EqAt.str_int a t' b t
  | str b=>obtain⟨t,rfl⟩:=rx;exact SeqAt.EqAt.str_str a t' b t
  | _=>exact absurd (show false=true from fx) Jl
 | _=>exact absurd (show false=true from fy) Jl
noncomputable def yr (x:V)(u:Value):Bool:=match u with
 | .none=>Dz .non x
 | .bool b=>Dz (.bl b) x
 | .int i _=>Dz (.int i) x
 | .str z _=>Dz (.str z) x
 | _=>false
theorem CV {x y:V}{u:Value}(r:RelV y u)(f:l4 y=true):yr x u=Dz y x:=by
 cases y with
 | non=>cases r;rfl
 | bl b=>cases r;rfl
 | int i=>obtain⟨t,rfl⟩:=r;rfl
 | str z=>obtain⟨t,rfl⟩:=r;rfl
 | _=>exact absurd (show false=true from f) Jl
theorem kL {x:V}:∀{xs:List V} {us:List Value},Vals xs us->xs.all l4=true->us.any (yr x)=xs.any fun y=>Dz y x
 | _,_,.nil,_=>rfl
 | y::xs,u::us,.cons r t,f=>by
  rw[List.all_cons,Jx] at f
  rw[Yd,Yd,CV r f.1,kL t f.2]
theorem iE {A:Around}{s:Shared}{x:V}{v:Value}(rx:RelV x v)(fx:l4 x=true):∀{xs:List V} {us:List Value},Vals xs us->xs.all l4=true->∀u∈us,SeqAt.EqAt A s u v (yr x u)
 | _,_,.nil,_=>fun u hu=>by cases hu
 | y::xs,u::us,.cons r t,f=>fun u' hu=>by
  rw[List.all_cons,Jx] at f
  rcases Jv.mp hu with rfl|hu
  ·rw[CV r f.1];exact LO r rx f.1 fx
  ·exact iE rx fx t f.2 u' hu
noncomputable def Dk (x:V)(xs:List V):Bool:=xs.any fun y=>Dz y x
def P4 (K:Ja)(neg:Bool):R2:=fun x y H Q=>dS fun p xs=>y = .ref p/\(bb K H p xs∨br K H p xs)/\l4 x=true/\xs.all l4=true/\Q (.bl (if neg then !Dk x xs else Dk x xs)) H
theorem BL:dR X (compareOp .In) (P4 X.K false):=by
 intro pins s σ H x y v u Q I rx ry h
 obtain⟨p,xs,rfl,hq,fx,fs,q⟩:=h
 cases ry
 rcases hq with hq|hq
 ·obtain⟨au,r,pl,hz⟩:=I.list hq
  refine SeqAt.in_listAt (yr x) pl.isList (fun w hw=>iE rx fx r fs w (by simpa using hw)) ⟨.bl _,H,I,rfl,?_⟩
  rw[show au.toArray.any (yr x)=au.any (yr x) by simp,kL r fs]
  exact q
 ·obtain⟨au,r,pl,hz⟩:=I.tuple hq
  refine SeqAt.in_tupleAt (yr x) pl (fun w hw=>iE rx fx r fs w (by simpa using hw)) ⟨.bl _,H,I,rfl,?_⟩
  rw[show au.toArray.any (yr x)=au.any (yr x) by simp,kL r fs]
  exact q
theorem rn:dR X (compareOp .NotIn) (P4 X.K true):=by
 intro pins s σ H x y v u Q I rx ry h
 obtain⟨p,xs,rfl,hq,fx,fs,q⟩:=h
 cases ry
 rcases hq with hq|hq
 ·obtain⟨au,r,pl,hz⟩:=I.list hq
  refine SeqAt.notIn_listAt (yr x) pl.isList (fun w hw=>iE rx fx r fs w (by simpa using hw)) ⟨.bl _,H,I,rfl,?_⟩
  rw[show au.toArray.any (yr x)=au.any (yr x) by simp,kL r fs]
  exact q
 ·obtain⟨au,r,pl,hz⟩:=I.tuple hq
  refine SeqAt.notIn_tupleAt (yr x) pl (fun w hw=>iE rx fx r fs w (by simpa using hw)) ⟨.bl _,H,I,rfl,?_⟩
  rw[show au.toArray.any (yr x)=au.any (yr x) by simp,kL r fs]
  exact q
theorem bE.or {f:Value}{r r':List V->Hp->VK->Prop}(h:bE X f r)(h':bE X f r'):bE X f (fun xs H Q=>r xs H Q∨r' xs H Q):=by
 intro pins s σ H xs us Q I rs q
 rcases q with q|q
 ·exact h s σ H xs us Q I rs q
 ·exact h' s σ H xs us Q I rs q
theorem tf:bE X (.type "list") (fun xs H Q=>∃p ys,xs=[.ref p]/\(bb X.K H p ys∨br X.K H p ys)/\∀l,H l=none->Q (.ref l) (upd H l (.lst ys))):=by
 intro pins s σ H xs us Q I r h
 obtain⟨p,ys,rfl,hq,q⟩:=h
 obtain⟨u,rfl,rx⟩:=vals1 r
 cases rx
 have fin:∀(au:List Value),Vals ys au->ys.length<=sizeLine->∀(h':Heap) (c':Nat),(∀b o',s.heap.get? b=some o'->h'.get? b=some o') ->
   h'.get? s.heap.objs.size=some { cls := .type "list",dict:=none,data := .seq au.toArray c',slots := #[] } -> EP X pins σ Q (.ref s.heap.objs.size) { s with heap:=h' }:=fun au r' hz h' c' kp e=>
  ⟨.ref s.heap.objs.size,_,I.laid (t':=s.toks) kp (Je _) (show bz X.prog X.w _ h' _ (.lst ys) from⟨hz,au,c',r',e⟩),rfl,q _ (I.bC.fresh (Je _))⟩
 rcases hq with hq|hq
 ·obtain⟨au,r',pl,hz⟩:=I.list hq
  have hlen:=r'.length
  obtain⟨o,ho,hc,n,hd⟩:=pl.isList
  exact call_list_seq p (.inl rfl) ho hc hd (fun h' c' kp e=>fin au r' hz h' c' kp e) (by simp only[Js]<;>omega)
 ·obtain⟨au,r',pl,hz⟩:=I.tuple hq
  have hlen:=r'.length
  obtain⟨o,ho,hc,n,hd⟩:=pl
  exact call_list_seq p (.inr rfl) ho hc hd (fun h' c' kp e=>fin au r' hz h' c' kp e) (by simp only[Js]<;>omega)
theorem pP:bE X (.type "tuple") (fun xs H Q=>∃p ys,xs=[.ref p]/\((bb X.K H p ys/\∀l,H l=none->Q (.ref l) (upd H l (.tup ys)))∨(br X.K H p ys/\Q (.ref p) H))):=by
 intro pins s σ H xs us Q I r h
 obtain⟨p,ys,rfl,h⟩:=h
 obtain⟨u,rfl,rx⟩:=vals1 r
 cases rx
 rcases h with ⟨hq,q⟩|⟨hq,q⟩
 ·obtain⟨au,r',pl,hz⟩:=I.list hq
  have hlen:=r'.length
  refine call_tuple_list pl.isList (fun h' kp =>?_) (by simp only[Js]<;>omega)
  have I1:Inv X pins σ H { s with heap:=h' }:=I.kept (t':=s.toks) kp
  have I2:Inv X pins σ (upd H h'.objs.size (.tup ys)) { s with heap:=h'.push { cls := .type "tuple",data := .seq au.toArray } }:=
   I1.laid (t':=s.toks) (fun b o e=>Jb _ e) (Je _) (show bz X.prog X.w _ _ _ (.tup ys) from⟨hz,au,r',sV.new _ _⟩)
  exact⟨.ref h'.objs.size,_,I2,rfl,q _ (I1.bC.fresh (Je _))⟩
 ·obtain⟨au,r',pl,hz⟩:=I.tuple hq
  exact call_tuple_same pl ⟨.ref p,H,I,rfl,q⟩
def Qu (K:Ja)(T:String)(x:V)(H:Hp):Prop:=match x with
 | .str _=>T = "str"
 | .int _=>T = "int"
 | .ref p=>(T = "list" /\ ∃xs,bb K H p xs)∨(T = "tuple" /\ ∃o,K.lookup p=some o/\o.cls = .type "tuple" /\ o.dict=none) ∨
   (T = "dict" /\ ((∃kvs,H p=some (.dK kvs))∨∃kvs,H p=some (.dT kvs)))∨(T = "set" /\ dS fun S n=>H p=some (.set S n))
 | _=>False
theorem xG {pins:List (Addr×Obj)}{σ:St}{H:Hp}{s:Shared}{T:String}{x:V}{v:Value}(I:Inv X pins σ H s)(r:RelV x v)(ty:Qu X.K T x H):
  s.TypeIs v T/\∀a,v = .ref a->∃ob,s.heap.get? a=some ob/\ob.dict=none:=by
 cases x with
 | str z=>
  obtain⟨t,rfl⟩:=r
  cases (show T = "str" from ty)
  exact⟨typeIs_str s z t,fun _ e=>nomatch e⟩
 | int i=>
  obtain⟨t,rfl⟩:=r
  cases (show T = "int" from ty)
  exact⟨typeIs_int s i t,fun _ e=>nomatch e⟩
 | ref p=>
  cases r
  rcases ty with ⟨rfl,xs,hq⟩|⟨rfl,o,hk,hc,hd⟩|⟨rfl,hk⟩|⟨rfl,S,n,hk⟩
  ·obtain⟨au,_,pl,_⟩:=I.list hq
   refine⟨pl.isList.typeIs,fun a e =>?_⟩
   cases e
   obtain⟨o,n,e,c,hd,_⟩:=pl
   exact⟨o,e,hd⟩
  ·refine⟨⟨o,I.je p o hk,hc⟩,fun a e =>?_⟩
   cases e
   exact⟨o,I.je _ o hk,hd⟩
  ·have z:∃o,s.heap.get? p=some o/\o.ExactDict:=by
    rcases hk with ⟨kvs,hk⟩|⟨kvs,hk⟩
    ·obtain⟨_,_,_,_,o,_,_,e,ex,_⟩:=I.bC p _ hk
     exact⟨o,e,ex⟩
    ·obtain⟨_,_,_,_,o,_,_,e,ex,_⟩:=I.bC p _ hk
     exact⟨o,e,ex⟩
   obtain⟨o,e,ex⟩:=z
   refine⟨⟨o,e,ex.1⟩,fun a e2 =>?_⟩
   cases e2
   exact⟨o,e,ex.2.1⟩
  ·obtain⟨o,_,_,_,e,ex,_⟩:=I.bC p _ hk
   refine⟨⟨o,e,ex.1⟩,fun a e2 =>?_⟩
   cases e2
   exact⟨o,e,ex.2.1⟩
 | _=>exact False.elim ty
def MW (K:Ja)(T:String)(r:V->List V->Hp->VK->Prop)(to:TE):TE:=fun σ H Q=>to σ H fun x H1=>Qu K T x H1/\r x [] H1 Q
def VR (K:Ja)(T:String)(r:V->List V->Hp->VK->Prop)(to:TE)(t:TA):TE:=fun σ H Q=>to σ H fun x H1=>Qu K T x H1/\t σ H1 fun xs H2=>r x xs H2 Q
variable {o e:Expr}{es:List Expr}{to:TE}{t:TA}{name:Str}{apos dB:Pos}{T id:String}{r:V->List V->Hp->VK->Prop}
theorem L0 (pa:PlainAttrs T)(slot:Slot T name id)(JD:typeOf (.builtin id)=pure (.type "method_descriptor"))(hm:Fg X id r)(ho:PE X o to)
  (kP:attributeBase o name X.env (eval o X.env)=eval o X.env:=by rfl) (j2:(apos.endLine==dB.line)=true:=by rfl):PE X (.Call (.Attribute o name apos) [] [] dB) (MW X.K T r to):=by
 intro pins s σ H Q I h
 refine wpAny_Call_method0_late kP j2 (bg (ho s σ H _ I h) fun v s1 hz_ =>?_)
 refine ai.el hz_ _ ?_
 clear hz_
 rintro x H1 I1 r1 ⟨ty,q1⟩
 obtain⟨h1,h2⟩:=xG I1 r1 ty
 exact⟨T,id,pa,slot,JD,h1,h2,Calls.callWith_builtin rfl (PySem.evalArgs_none (hm s1 σ H1 x [] v [] Q I1 r1 .nil q1))⟩
theorem NP (pa:PlainAttrs T)(slot:Slot T name id)(JD:typeOf (.builtin id)=pure (.type "method_descriptor"))(hm:Fg X id r)(ho:PE X o to)(ha:PA X (e::es) t)
  (kP:attributeBase o name X.env (eval o X.env)=eval o X.env:=by rfl)
  (Bu:((backTo dB (starEach (e::es) X.env)).all (fun x => !x.1)&&(backToKw dB (keywordEach [] X.env)).all (fun x=>x.1.isSome)
   && decide ((e::es).length+([]:List Keyword).length+(if ([]:List Keyword).isEmpty then 0 else 1)<30))=true:=by rfl)
  (j2:(apos.endLine==dB.line)=true:=by rfl) (hs:starEach (e::es) X.env=(false,eval e X.env)::starEach es X.env:=by rfl) (wx:(backTo dB (starEach es X.env)).any (·.1)=false:=by rfl) :
  PE X (.Call (.Attribute o name apos) (e::es) [] dB) (VR X.K T r to t):=by
 intro pins s σ H Q I h
 refine wpAny_Call_method_late kP Bu j2 rfl (bg (ho s σ H _ I h) fun v s1 hz_ =>?_)
 refine ai.el hz_ _ ?_
 clear hz_
 rintro x H1 I1 r1 ⟨ty,q1⟩
 obtain⟨h1,h2⟩:=xG I1 r1 ty
 refine⟨T,id,pa,slot,JD,h1,h2,?_⟩
 have hA:=ha (pos:=dB) s1 σ H1 _ I1 q1
 rw[hs] at hA ⊢
 refine Calls.callWith_builtin (by show(false||(backTo dB (starEach es X.env)).any (·.1))=false;rw[wx]<;>rfl) (Calls.evalArgs_plain ?_)
 exact bg hA fun us s2 hz_=>ai.el hz_ _ fun vs H2 I2 r2 q2=>hm s2 σ H2 x vs v us Q I2 r1 r2 q2
end
def Mr (X:Cx)(id:String)(r:V->List V->Hp->VK->Prop):Prop:=
 ∀ ⦃pins:List (Addr×Obj)⦄ (s:Shared) (σ:St) (H:Hp) (x:V) (xs:List V) (v:Value) (us:List Value) (Q:VK),Inv X pins σ H s->RelV x v->Vals xs us->r x xs H Q ->
  wpAny (model X.prog X.w) X.A (call (.builtin id) (v::us)) (EP X pins σ Q) X.xe s
theorem Vals.hd {x:V}{xs:List V}{us:List Value}(h:Vals (x::xs) us):∃u r,us=u::r/\RelV x u/\Vals xs r:=by
 cases h with|cons a b=>exact⟨_,_,rfl,a,b⟩
theorem Vals.one {x:V}{us:List Value}(h:Vals [x] us):∃u,us=[u]/\RelV x u:=by
 obtain⟨u,r,rfl,a,h⟩:=h.hd
 cases h
 exact⟨_,rfl,a⟩
theorem Vals.two {x y:V}{us:List Value}(h:Vals [x,y] us):∃u v,us=[u,v]/\RelV x u/\RelV y v:=by
 obtain⟨u,r,rfl,a,h⟩:=h.hd
 obtain⟨v,rfl,b⟩:=h.one
 exact⟨_,_,rfl,a,b⟩
theorem Vals.eraseIdx:∀{xs:List V} {us:List Value} (i:Nat),Vals xs us->Vals (xs.eraseIdx i) (us.eraseIdx i)
 | _,_,_,.nil =>.nil
 | _,_,0,.cons _ t=>t
 | _,_,i+1,.cons r t =>.cons r (Vals.eraseIdx i t)
theorem Vals.rep {xs:List V}{us:List Value}(h:Vals xs us):∀k:Nat,Vals (Ju k xs).flatten (Ju k us).flatten
 | 0 =>.nil
 | k+1=>by
  rw[Yk,Yk,List.flatten_cons,List.flatten_cons]
  exact Vals.append h (Vals.rep h k)
theorem qr {α:Type}:∀(l:List α) (i:Nat),(l.eraseIdx i).length<=l.length
 | [],_=>Je _
 | _::_,0=>Yr _
 | _::r,i+1=>Y9 (qr r i)
theorem foldl_rep (au:List Value):∀(k:Nat) (acc:List Value),
  List.foldl (fun x1 x2=>x1++x2) acc.toArray (Ju k au.toArray)=(acc++(Ju k au).flatten).toArray
 | 0,acc=>by simp
 | k+1,acc=>by
  have e:acc.toArray++au.toArray=(acc++au).toArray:=by simp
  have e2:(acc++au)++(Ju k au).flatten=acc++(Ju (k+1) au).flatten:=by
   rw[Yk,List.flatten_cons,List.append_assoc]
  rw[<-e2,<-foldl_rep au k (acc++au),<-e,Yk,List.foldl_cons]
section
variable {X:Cx}{pins:List (Addr×Obj)}{σ:St}{H:Hp}{s:Shared}{l b:Addr}{xs ys zs:List V}
theorem Inv.FI {au its':List Value}{n:Nat}{f:Array Value->Array Value}{t':Nat}(I:Inv X pins σ H s)(hH:H l=some (.lst xs))
  (e:s.heap.get? l=some { cls := .type "list",data := .seq au.toArray n }) (hf:f au.toArray=its'.toArray) (hv:Vals ys its') (hz:ys.length<=sizeLine) :
  Inv X pins σ (upd H l (.lst ys)) { s with heap:=s.heap.update l (Obj.mapSeq f),toks:=t' }:=by
 have q:=PySem.IsL.update e f
 rw[hf] at q
 refine I.write (x:=l) (e:=l) (by rw[hH];exact trivial) (.inl rfl) (fun b' u hb hu=>(J5 s.heap (Obj.mapSeq f) (Ne.symm hb)).trans hu) ⟨_,q⟩ ?_
 exact⟨hz,its',_,hv,q⟩
theorem Inv.MI {au:List Value}{t':Nat}(I:Inv X pins σ H s)(hv:Vals ys au)(hz:ys.length<=sizeLine):
  Inv X pins σ (upd H s.heap.objs.size (.lst ys)) { s with heap:=s.heap.push { cls := .type "list",data := .seq au.toArray },toks:=t' }:=
 I.laid (fun _ _ q=>Jb _ q) (Je _) ⟨hz,au,0,hv,Jk _ rfl⟩
theorem Inv.fresh (I:Inv X pins σ H s):H s.heap.objs.size=none:=I.bC.fresh (Je _)
theorem Inv.yt (I:Inv X pins σ H s)(hH:H l=some (.lst xs)):xs.length<=sizeLine/\∃(au:List Value) (n:Nat),Vals xs au/\xs.length=au.length/\s.heap.get? l=some { cls := .type "list",data := .seq au.toArray n }:=by
 obtain⟨z,au,n,r,e⟩:=I.bC l _ hH
 exact⟨z,au,n,r,r.length,e⟩
theorem Ew {n:Nat}(h:n<=sizeLine):Builtin.List.listTooLong n=false:=by
 unfold Builtin.List.listTooLong
 exact decide_eq_false (by omega)
end
section
variable {X:Cx}
def GC:V->List V->Hp->VK->Prop:=fun x vs H Q=>m7 fun l xs y=>x = .ref l/\vs=[y]/\H l=some (.lst xs)/\xs.length<sizeLine/\Q .non (upd H l (.lst (xs++[y])))
theorem B9:Mr X "list.append" GC:=by
 intro pins s σ H x vs v us Q I rx rv h
 obtain⟨l,xs,y,rfl,rfl,hH,hz,q⟩:=h
 cases rx
 obtain⟨u,rfl,ru⟩:=rv.one
 obtain⟨z,au,n,r,hl,e⟩:=I.yt hH
 refine call_meets F.slot_list_append ⟨_,e,rfl⟩ F.entry_list_append (F.args_list_append_2 _ _) (PySem.list_append l au.toArray n u (by rw[Js];omega)) ⟨e,?_⟩
 refine⟨.non,_,I.FI (its':=au++[u]) hH e (by simp) (r.append (.cons ru .nil)) ?_,rfl,q⟩
 rw[Jp,List.length_singleton]
 omega
def Kd:V->List V->Hp->VK->Prop:=fun x vs H Q=>wb fun l xs i k y=>x = .ref l/\vs=[.int i]/\H l=some (.lst xs) /\ -(2^63)<=i/\i<2^63/\seqIndex? i xs.length=some k/\xs[k]? = some y/\Q y (upd H l (.lst (xs.eraseIdx k)))
theorem C7:Mr X "list.pop" Kd:=by
 intro pins s σ H x vs v us Q I rx rv h
 obtain⟨l,xs,i,k,y,rfl,rfl,hH,h1,h2,hk,hy,q⟩:=h
 cases rx
 obtain⟨u,rfl,ru⟩:=rv.one
 obtain⟨t,rfl⟩:=ru
 obtain⟨z,au,n,r,hl,e⟩:=I.yt hH
 obtain⟨w,hw,rw'⟩:=r.get hy
 refine call_meets F.slot_list_pop ⟨_,e,rfl⟩ F.entry_list_pop (F.args_list_pop_2 _ _)
  (MeetsSeq.list_pop_at l au.toArray n i t k w (fitsIndex_both h1 h2) (by rw[Js,<-hl];exact hk) (by rw[<-Array.getElem?_toList];exact hw) (by rw[Js];omega)) ⟨e,?_⟩
 refine⟨y,_,I.FI (its':=au.eraseIdx k) hH e ?_ (r.eraseIdx k) ?_,rw',q⟩
 ·show au.toArray.eraseIdxIfInBounds k=(au.eraseIdx k).toArray
  rw[List.eraseIdxIfInBounds_toArray]
 ·have:=qr xs k
  omega
def ND:R2:=fun x y H Q=>qi fun l b xs zs=>x = .ref l/\y = .ref b/\H l=some (.lst xs)/\H b=some (.lst zs)/\xs.length+zs.length<=sizeLine/\∀p,H p=none->Q (.ref p) (upd H p (.lst (xs++zs)))
theorem LA:dR X (binaryOp .Add) ND:=by
 intro pins s σ H x y v u Q I rx ry h
 obtain⟨l,b,xs,zs,rfl,rfl,hH,hB,hz,q⟩:=h
 cases rx
 cases ry
 obtain⟨z,au,n,r,hl,e⟩:=I.yt hH
 obtain⟨z2,its2,n2,r2,u3,e2⟩:=I.yt hB
 refine PySem.P.add_list e e2 ?_ (by rw[Js,Js];omega)
 have ea:au.toArray++its2.toArray=(au++its2).toArray:=by simp
 rw[ea]
 exact⟨.ref _,_,I.MI (t':=s.toks) (r.append r2) (by rw[Jp];omega),rfl,q _ I.fresh⟩
def PK:R2:=fun x y H Q=>m7 fun l k xs=>x = .ref l/\y = .int k/\H l=some (.lst xs) /\ -(2^63)<=k/\k<2^63/\xs.length*k.toNat<=sizeLine /\
 ∀p,H p=none->Q (.ref p) (upd H p (.lst (Ju k.toNat xs).flatten))
theorem G4 {α:Type}(xs:List α)(k:Nat):(Ju k xs).flatten.length=k*xs.length:=by
 induction k with
 | zero=>simp
 | succ k ih=>rw[Yk,List.flatten_cons,Jp,ih,Nat.succ_mul,Nat.add_comm]
theorem Mf:dR X (binaryOp .Mult) PK:=by
 intro pins s σ H x y v u Q I rx ry h
 obtain⟨l,k,xs,rfl,rfl,hH,h1,h2,hz,q⟩:=h
 cases rx
 obtain⟨t,rfl⟩:=ry
 obtain⟨z,au,n,r,hl,e⟩:=I.yt hH
 have hlen:au.toArray.size*k.toNat<=sizeLine:=by rw[Js,<-hl];exact hz
 have Vh:¬au.toArray.size*k.toNat>(2^63-1) / 8:=by
  have:(sizeLine:Nat)<=(2^63-1) / 8:=by decide
  omega
 have Vo:¬(!Builtin.List.listFitsIndex k)=true:=by
  rw[fitsIndex_both h1 h2]
  exact Jl
 have M6:¬Builtin.List.listTooLong (au.toArray.size*k.toNat)=true:=by
  rw[Ew hlen]
  exact Jl
 have Ss:List.foldl (fun x1 x2=>x1++x2) #[] (Ju (if au.toArray.isEmpty=true then 0 else k.toNat) au.toArray)=(Ju k.toNat au).flatten.toArray:=by
  have f0:∀m:Nat,List.foldl (fun x1 x2=>x1++x2) #[] (Ju m au.toArray)=(Ju m au).flatten.toArray:=fun m=>by
   have:=foldl_rep au m []
   rw[List.nil_append] at this
   exact this
  rw[f0]
  cases au with
  | nil=>simp
  | cons a r'=>rw[if_neg (by simp)]
 refine wpAny_binaryOp_repeat_ref (T := "list") (U := "int") (by decide) ⟨_,e,rfl⟩ (fun s'=>typeIs_int s' k t) noFill_list_mul F.fills_int_mul F.slot_int_rmul repeat_list F.slot_int_index.lookup
  (call_meets F.slot_int_rmul (typeIs_int s k t) F.entry_int_rmul (F.args_int_rmul_2 _ _) (int___rmul___int_list k t l au.toArray n)
   ⟨e,rfl,⟨_,e,rfl⟩,call_meets F.slot_list_mul ⟨_,e,rfl⟩ F.entry_list_mul (F.args_list_mul_2 _ _) (AutoListH.list___mul___list_int_3 l au.toArray n k t Vo Vh M6) ⟨e,?_⟩⟩)
 rw[Ss]
 exact⟨.ref _,_,I.MI (t':=s.toks) (r.rep k.toNat) (by rw[G4,Nat.mul_comm];exact hz),rfl,q _ I.fresh⟩
end
section
variable {prog:Program}{w:World}{A:Around}{E:Value->Shared->Prop}{s:Shared}
set_option maxRecDepth 100000 in
end
end L2
namespace Att
open PySem PySem.W PySem.Calls PyProof.Rows
theorem mB {P:Params}{h:Heap}:∀(ns:List Int) (vs:List Value),WellAll P h vs (ns.map WData.int)->IntsAre vs ns:=by
 intro ns
 induction ns with
 | nil=>
  intro vs w
  rw[List.map_nil] at w
  cases w
  exact .nil
 | cons n ns ih=>
  intro vs w
  rw[J0] at w
  cases w with
  | cons a b=>
   cases a
   exact .cons _ _ (ih _ b)
theorem Bi {l:OpenLaw}{n:Nat}(hn:l.most=some n){P:Params}{h:Heap}{args:List WData}{vals:List Value}
  (G8:l.row.toRowW.claim.pre args=true) (Rn:WellAll P h vals args) :
  ∃a vs ns,vals=[Value.ref a]/\args=[WData.list (ns.map WData.int)]/\h.get? a=some { cls := .type "list",data := .seq vs.toArray } /\ IntsAre vs ns/\ns.length<=n:=by
 have Mt:WShape.hasAll [] args [.list .int]=true:=(pre_splitW G8).1
 have hc:l.pre.holds [] { args:=args } = true:=(pre_splitW G8).2
 obtain⟨d,r,rfl,h1,h2⟩:=hasAllW_cons Mt
 obtain rfl:=hasAllW_nil h2
 obtain⟨xs,rfl,h3⟩:=hasW_list h1
 obtain⟨ns,rfl⟩:=items_int h3
 have hlen:ns.length<=n:=by
  unfold OpenLaw.pre at hc
  have h4:(WTm.not (.lt (.lit (.int (n:Int))) (.len (.arg 0)))).holds [] { args:=[.list (ns.map .int)] } = true:=by
   have h4:=(holds_andW hc).1
   rw[hn] at h4
   exact h4
  have h5:=condW_of h4 (w_not (w_lt w_lit (w_len_list (w_arg rfl))))
  rw[Jc] at h5
  refine Nat.le_of_not_lt fun q =>?_
  have q':(n:Int)<((ns.length:Nat):Int):=by omega
  first
   | (rw[decide_eq_true q'] at h5;exact absurd h5 (by decide))
   | (simp at h5;omega)
 cases Rn with
 | cons w1 w2=>
  cases w2
  cases w1 with
  | list ho iR=>exact⟨_,_,ns,rfl,rfl,ho,mB ns _ iR,hlen⟩
theorem Bo (l:OpenLaw)(args:List WData):l.row.toRowW.claim.post args (.bool true) args=true:=
 postW_of (r:=l.row.toRowW) (X:=(true==true))
  (show WShape.has [] (.bool true) .bool=true by first|rfl|decide|simp[WShape.has,WShape.arms,WShape.armsAll])
  (show(WTm.eq .res (.lit (.bool true))).value [] { args:=args,res:=some (.bool true),after:=args } = some (.bool (true==true)) from w_eq_bool (w_res rfl) w_lit) rfl
theorem uB {l:OpenLaw}{n:Nat}{q:Program}{loose:List Str}{XP:(Str->Option Value)->Heap->Prop}{YP:World->Heap->Prop}{d:DefRec}
  (hn:l.most=some n) (Nf:d.params.defaults=[])
  (call:∀(w:World) (s₀ s₁:Shared) (mg mb:Str->Option Value) (fa:Addr) (o:Obj) (pm cd doc:Value) (a:Addr) (vs:List Value) (ns:List Int),
   Ground q loose [] XP w s₀ mg mb s₁.heap->YP w s₁.heap ->
   s₁.heap.get? fa=some o->o.data = .func (docDef d.name d.params d.body d.scope pm cd doc)->s₁.heap.CodeRec cd d.name->mg d.name=some (.ref fa) ->
   s₁.heap.get? a=some { cls := .type "list",data := .seq vs.toArray } -> IntsAre vs ns->ns.length<=n->s₁.gens = #[] ->
   codeAny (model l.prog w) callerA (.call (.ref fa) ⟨[.ref a],[]⟩) (fun r s'=>r = .ok (.ret (.bool true))/\OldK s₁.heap s'.heap/\s'.os=s₁.os/\AllBare s'.gens) s₁) :
  WalkO q loose XP YP l.row.toRowW d [] (fun f vs=>PySem.call f vs):=by
 intro w s₀ s₁ mg mb G Y fa o pm cd doc dV kV ho hd wX hD hmg hg args vals as G8 hlay hrd Rn hlo
 obtain rfl:dV = .none:=Dflts.none hD Nf
 obtain rfl:kV = .none:=Dflts.noKw hD
 obtain⟨a,vs,ns,rfl,rfl,hobj,hints,hlen⟩:=Bi hn G8 Rn
 refine enter_call (codeAny_mono (call w s₀ s₁ mg mb fa o pm cd doc a vs ns G Y ho (fd_plain hd) wX hmg hobj hints hlen hg) fun r s' hq =>?_)
 obtain⟨rfl,h2,h3,h4⟩:=hq
 exact⟨.inl ⟨.bool true,.bool true,[],rfl,fun _=>rfl,.bool true,Bo l _,fun _=>⟨List.Pairwise.nil,fun _ hm=>(nomatch hm)⟩⟩,h2,h3,h4⟩
end Att
namespace L2
open PySem PySem.Spec PyProof.Rows
theorem Cd {vs:List Value}{ns:List Int}(h:IntsAre vs ns):Vals (ns.map V.int) vs:=by
 induction h with
 | nil=>exact .nil
 | cons n t h ih=>exact .cons ⟨t,rfl⟩ ih
def K6 (H:Hp):Prop:=∀b,H b=none∨dS fun o xs=>H b=some (.frz o (.lst xs))
theorem EA {P:Program}{w:World}{K:Ja}{mg mb:Str->Option Value}{CX:Al}{k:Nat}{fa a:Addr}{fd:FuncData}{x:Str}{sp:Sp}{s₁:Shared}{vs:List Value}{ns:List Int}
  (KX:K.In s₁.heap) (QB:s₁.heap.Ns mainGlobals mg) (hb:s₁.heap.Ns builtinsNs mb) (Xy:∀x:Str,x ≠ "__name__" -> mb x=bootBuiltins x) (Sy:s₁.heap.NoLimit) (hg:s₁.gens = #[])
  (ha:s₁.heap.get? a=some { cls := .type "list",data := .seq vs.toArray }) (hi:IntsAre vs ns) (hl:ns.length<=sizeLine) (hr:cY k callerA)
  (F:∀base:Heap,K.In base->base.Ns mainGlobals mg->bh P w K mg base CX k fa fd [x] sp) (Pn:∀(s:Shared) (u:Value),BindsTo s fd ⟨[u],[]⟩ [(x,u)])
  (Fh:∀H:Hp,K6 H->bb K H a (ns.map V.int)->sp [.ref a] H (fun v _=>v = .bl true) fun _ _ _=>False)
  (UX:∀H e s',CX [] H s₁ (fun _ _ _=>False) e s'->False) :
  codeAny (model P w) callerA (.call (.ref fa) ⟨[.ref a],[]⟩) (fun r s'=>r = .ok (.ret (.bool true))/\OldK s₁.heap s'.heap/\s'.os=s₁.os/\AllBare s'.gens) s₁:=by
 have rv:=Cd hi
 have Vj:=hi.length
 have core:∀H:Hp,K6 H->bb K H a (ns.map V.int)->gV P w H s₁.heap->(∀b,H b≠none->b=a)->(H a≠none->K.lookup a=none) ->
   codeAny (model P w) callerA (.call (.ref fa) ⟨[.ref a],[]⟩) (fun r s'=>r = .ok (.ret (.bool true))/\OldK s₁.heap s'.heap/\s'.os=s₁.os/\AllBare s'.gens) s₁:=by
  intro H hO hS bC hA hK
  have zx:∀{b:Addr} {o:Obj},s₁.heap.get? b=some o->H b=none->(tI s₁.heap H).get? b=some o:=fun e n=>Cz e n
  have O0:∀{b:Addr} {o:Obj} {es:Array DictEntry} {ep:Nat},s₁.heap.get? b=some o->o.data = .dict es ep->H b=none:=fun{b o es ep} e d=>by
   cases q:H b with
   | none=>rfl
   | some u=>
    have e':b=a:=hA b (by rw[q];simp)
    subst e'
    rw[ha] at e;cases e
    have d':Data.seq vs.toArray _=Data.dict es ep:=d
    cases d'
  have Qa:∀{b:Addr} {m:Str->Option Value},s₁.heap.Ns b m->(tI s₁.heap H).Ns b m:=fun{b m} ⟨o,es,ep,e,d,r⟩=>⟨o,es,ep,zx e (O0 e d),d,r⟩
  have V3:K.In (tI s₁.heap H):=fun b o e=>zx (KX b o e) (by
   cases q:H b with
   | none=>rfl
   | some u=>
    have e':b=a:=hA b (by rw[q];simp)
    subst e'
    rw[hK (by rw[q];simp)] at e;cases e)
  have hM:Mod K mg (tI s₁.heap H):=⟨V3,Qa QB,⟨mb,Qa hb,Xy⟩,let ⟨mc,h1,h2⟩:=Sy; ⟨mc,Qa h1,h2⟩⟩
  have e0:xx P w K mg (tI s₁.heap H) callerA [] s₁ H:=⟨rfl,hM,fun b o e=>Gi e,Nat.le_of_eq (zY _ _),trivial,fun b hb=>absurd (show b∈([]:List Addr) from hb) (by simp),bC,.of_eq hg⟩
  refine codeAny_mono ((F _ V3 (Qa QB)).run callerA [] s₁ H ⟨[.ref a],[]⟩ [.ref a] [.ref a] _ _ hr e0 (Pn s₁ (.ref a)) (.cons rfl .nil) (Fh H hO hS)) fun r s' h =>?_
  cases r with
  | error e=>exact(UX H e s' h).elim
  | ok fl=>
   cases fl with
   | next=>exact False.elim h
   | brk=>exact False.elim h
   | cont=>exact False.elim h
   | ret u=>
    obtain⟨v,H',os,bare,un,Ee,r',q⟩:=h
    have q':v = .bl true:=q
    subst q'
    obtain rfl:u=Value.bool true:=r'
    refine⟨rfl,OldK.of_keep fun b o e =>?_,os,bare⟩
    cases q:H b with
    | none=>exact un.keep b o e q (by intro z;exact absurd (show b∈([]:List Addr) from z) (by simp)) (by simp)
    | some u=>
     rcases hO b with z|⟨ob,xs,z⟩
     ·rw[q] at z;cases z
     ·have z2:=un.jh b ob _ z
      obtain⟨e1,_⟩:=bC b _ z
      obtain⟨e2,_⟩:=Ee b _ z2
      rw[e] at e1;cases e1
      exact e2
 cases hk:K.lookup a with
 | some o=>
  have e:=KX a o hk
  rw[ha] at e
  cases e
  refine core (fun _=>none) (fun _ =>.inl rfl) (.inr ⟨_,vs.toArray,_,hk,rfl,rfl,rfl,by rw[Js,Vj];exact hl,by simpa using rv⟩) (fun b u z=>by have z':(none:Option HO)=some u:=z;cases z') (fun b z=>absurd rfl z) fun z=>absurd rfl z
 | none=>
  refine core (fun b=>if b=a then some (.frz { cls := .type "list",data := .seq vs.toArray } (.lst (ns.map V.int))) else none) (fun b =>?_) (.inl (.inr ⟨{ cls := .type "list",data := .seq vs.toArray },if_pos rfl⟩)) (fun b u z =>?_) (fun b z =>?_) fun _=>hk
  ·by_cases hb:b=a
   ·exact .inr ⟨_,_,if_pos hb⟩
   ·exact .inl (if_neg hb)
  ·by_cases hb:b=a
   ·have z':=(if_pos hb).symm.trans z
    cases z'
    subst hb
    exact⟨ha,by rw[Jc];exact hl,vs,_,rv,ha⟩
   ·have z':=(if_neg hb).symm.trans z
    cases z'
  ·by_cases hb:b=a
   ·exact hb
   ·exact absurd (if_neg hb) z
theorem GR {l:PySem.W.OpenLaw}{n k:Nat}{q:Program}{loose:List Str}{XP:(Str->Option Value)->Heap->Prop}{YP:World->Heap->Prop}{d:DefRec}{K:Params->Ja}{CX:World->Al}{sp:World->Sp}{x:Str}
  (hn:l.most=some n) (Ld:n<=sizeLine) (Nf:d.params.defaults=[]) (hr:cY k callerA)
  (hY:∀(w:World) (h:Heap),YP w h->(K w.params).In h)
  (F:∀(w:World) (mg:Str->Option Value) (fa:Addr) (h:Heap),(K w.params).In h->h.Ns mainGlobals mg->mg d.name=some (.ref fa) ->
   ∃fd:FuncData,(∀(s:Shared) (u:Value),BindsTo s fd ⟨[u],[]⟩ [(x,u)]) /\
    ∀base:Heap,(K w.params).In base->base.Ns mainGlobals mg->bh l.prog w (K w.params) mg base (CX w) k fa fd [x] (sp w))
  (Fh:∀(w:World) (H:Hp) (a:Addr) (ns:List Int),ns.length<=n->K6 H->bb (K w.params) H a (ns.map V.int)->sp w [.ref a] H (fun v _=>v = .bl true) fun _ _ _=>False)
  (UX:∀(w:World) (H:Hp) (s:Shared) (e:Value) (s':Shared),CX w [] H s (fun _ _ _=>False) e s'->False) :
  PySem.W.WalkO q loose XP YP l.row.toRowW d [] (fun f vs=>PySem.call f vs):=by
 refine Att.uB hn Nf fun w s₀ s₁ mg mb fa o pm cd doc a vs ns G Y ho hd wX hmg hobj hints hlen hg =>?_
 have KX:=hY w _ Y
 obtain⟨fd,hb,hF⟩:=F w mg fa _ KX G.T.g hmg
 exact EA KX G.T.g G.T.b G.T.builtins G.T.nolimit hg hobj hints (Jh hlen Ld) hr hF hb (fun H hO hS=>Fh w H a ns hlen hO hS) fun H e s'=>UX w H s₁ e s'
noncomputable def inClass (s:Stmt)(j:Nat):Stmt:=match s with
 | .ClassDef _ _ _ body _ _ _ _ _ _ _=>body.getD j (.Pass ⟨0,0,0,0⟩)
 | _ =>.Pass ⟨0,0,0,0⟩
noncomputable def dJ (s:Stmt):Arguments:=match s with
 | .FunctionDef _ a _ _ _ _ _ _ _ _=>a
 | _=>{ posonlyargs:=[],args:=[],vararg:=none,kwonlyargs:=[],kw_defaults:=[],kwarg:=none,defaults:=[] }
noncomputable def cR (s:Stmt):List Stmt:=match s with
 | .FunctionDef _ _ b _ _ _ _ _ _ _=>b
 | _=>[]
noncomputable def aj (s:Stmt):Scope:=match s with
 | .FunctionDef _ _ _ _ _ _ sc _ _ _=>sc
 | _=>{ kind := .function,names:=[],isGenerator:=false,isCoroutine:=false }
abbrev eP:Al:=fun _ _ _ _ _ _=>False
abbrev E0:XK:=fun _ _ _=>False
theorem Ii {X:Cx}:Passes eP X E0:=fun _ _ _ _ _ _ _ h=>h.elim
structure bO (K:Ja)(x qual:Str)(st:Stmt)(f:Addr)(fd:FuncData):Prop where
 ex:∃(oc:Value) (od:Option Addr) (kV doc pm:Value) (an:Option Addr) (cG ct:Value) (zR:Array (Option Value)),
  fd=Yp x qual (dJ st) (cR st) (aj st) .none kV doc pm an cG ct/\K.lookup f=some ⟨oc,od,.func fd,zR⟩/\Y7 K cG qual=true
 kp:Uu K (.ref f)=true
section
variable {P:Program}{w:World}{K:Ja}{mg:Str->Option Value}{base:Heap}
theorem bO.ok {x qual:Str}{st:Stmt}{f:Addr}{fd:FuncData}{N ps:List Str}{k:Nat}{sp:Sp}(F:bO K x qual st f fd)(S:aA N ps (aj st))(len:∀vs H Q E,sp vs H Q E->vs.length=ps.length)
  (vC:∀(cG:Value) (A:Around) (outer:List Env) (s:Shared) (H:Hp) (vs:List V) (Q:VK) (E:XK),cY k (A.deeper (envOfC qual (aj st) s.heap.objs.size f cG))->sp vs H Q E ->
   ∃t,yU (hV eP P w K mg base N qual (aj st) f cG A outer s H E).QL (cR st) t/\t { nx:=fun _ H'=>Q .non H',rt:=Q } (start N vs) H):bh P w K mg base eP (k+1) f fd ps sp:=by
 obtain⟨oc,od,kV,doc,pm,an,cG,ct,zR,rfl,lk,wX⟩:=F.ex
 refine Iu lk wX S len fun A outer s H vs Q E hr Fh =>?_
 obtain⟨t,h,q⟩:=vC cG A outer s H vs Q E hr Fh
 exact⟨t,h.QL,q⟩
theorem bO.binds {x qual:Str}{st:Stmt}{f:Addr}{fd:FuncData}{ps:List Str}(F:bO K x qual st f fd)
  (h:∀(kV doc pm:Value) (an:Option Addr) (cG ct:Value) (us:List Value),us.length=ps.length->bindArgs (Yp x qual (dJ st) (cR st) (aj st) .none kV doc pm an cG ct) ⟨us,[]⟩=pure (ps.zip us)):Binds K fd ps []:=by
 obtain⟨oc,od,kV,doc,pm,an,cG,ct,zR,rfl,lk,wX⟩:=F.ex
 exact .all (h kV doc pm an cG ct)
theorem aU {x qual:Str}{st:Stmt}{f:Addr}{oc:Value}{od an:Option Addr}{zR:Array (Option Value)}{kV doc pm cG ct:Value}(l:K.lookup f=some ⟨oc,od,.func (Yp x qual (dJ st) (cR st) (aj st) .none kV doc pm an cG ct),zR⟩)
  (c:Y7 K cG qual=true) (k:Uu K (.ref f)=true):bO K x qual st f (Yp x qual (dJ st) (cR st) (aj st) .none kV doc pm an cG ct):=⟨⟨oc,od,kV,doc,pm,an,cG,ct,zR,rfl,l,c⟩,k⟩
end
theorem nP {A:Around}{k:Nat}(hr:cY k A):A.units+1<cLine:=J1 (Nat.add_le_add_left (by decide:1<=64) _) hr.units
section
variable {X:Cx}
theorem pv (i:Nat){x:Str}{pos:Pos}(hN:X.N[i]? = some x:=by rfl)(hv:Mi X.env.scope x:=by first|exact Or.inl rfl|exact Or.inr (Or.inl rfl)|exact Or.inr (Or.inr rfl))(hd:(x==("__debug__" : Str))=false:=by decide)
  (wX:(x==("__classdict__" : Str))=false:=by decide):PE X (.Name x pos) (Dw i):=LW hN hv hd wX
end
theorem bF {A B:Prop}(h:B):if false=true then A else B:=by
 rw[if_neg Jl]
 exact h
theorem bK {A B:Prop}(h:A):if true=true then A else B:=by
 rw[if_pos rfl]
 exact h
theorem eU {c A B:Prop}[Decidable c](h1:c->A)(h2:¬c->B):if c then A else B:=by
 by_cases h:c
 ·rw[if_pos h]
  exact h1 h
 ·rw[if_neg h]
  exact h2 h
def ao (H H':Hp):Prop:=∀b o,H b=some o->H' b=some o
theorem ao.refl (H:Hp):ao H H:=fun _ _ h=>h
theorem ao.trans {H H1 H2:Hp}(a:ao H H1)(b:ao H1 H2):ao H H2:=fun c o h=>b c o (a c o h)
theorem ao.free {H H':Hp}(e:ao H H'){l:Addr}(h:H' l=Option.none):H l=Option.none:=by
 cases q:H l with
 | none=>rfl
 | some o=>
  rw[e l o q] at h
  cases h
theorem ao.seq {K:Ja}{H H':Hp}{a:Addr}{xs:List V}(e:ao H H')(h:bb K H a xs):bb K H' a xs:=by
 rcases h with (h|⟨o,h⟩)|h
 ·exact .inl (.inl (e _ _ h))
 ·exact .inl (.inr ⟨o,e _ _ h⟩)
 ·exact .inr h
end L2
namespace Z
open PySem L2
noncomputable def top (i:Nat):Stmt:=PySem.Challenge.pw_oddlong_k36_places_by_fars.main.body.getD i (.Pass ⟨0,0,0,0⟩)
noncomputable abbrev Kf:Nat:=1
noncomputable abbrev gw:Nat:=2
noncomputable abbrev gp:Nat:=3
noncomputable abbrev lT:Nat:=12
noncomputable abbrev lE:Nat:=13
noncomputable abbrev lN:Nat:=14
noncomputable abbrev nW:Nat:=15
noncomputable abbrev gO:Nat:=16
noncomputable abbrev lB:Nat:=17
noncomputable abbrev iy:Nat:=18
noncomputable abbrev jJ:Nat:=21
noncomputable abbrev jS:Nat:=22
noncomputable abbrev fF:Nat:=23
noncomputable abbrev gM:Nat:=24
noncomputable abbrev iI:Nat:=26
noncomputable abbrev kX:Nat:=27
noncomputable abbrev iH:Nat:=28
noncomputable abbrev jC:Nat:=29
noncomputable abbrev fV:Nat:=30
noncomputable abbrev lx:Nat:=32
noncomputable abbrev jA:Nat:=33
noncomputable abbrev xA:Nat:=34
noncomputable abbrev rP:Nat:=35
noncomputable abbrev ly:Nat:=40
noncomputable abbrev fU:Nat:=41
noncomputable abbrev dH:Nat:=42
noncomputable abbrev d6:Nat:=43
noncomputable abbrev iU:Nat:=45
noncomputable abbrev jF:Nat:=46
noncomputable abbrev jB:Nat:=47
noncomputable abbrev ig:Nat:=48
noncomputable abbrev iM:Nat:=49
noncomputable abbrev iL:Nat:=50
noncomputable abbrev ij:Nat:=51
noncomputable abbrev iA:Nat:=52
noncomputable abbrev jI:Nat:=53
noncomputable abbrev fQ:Nat:=54
noncomputable abbrev ic:Nat:=55
noncomputable abbrev fh:Nat:=56
noncomputable abbrev la:Nat:=57
noncomputable abbrev lh:Nat:=58
noncomputable abbrev fW:Nat:=59
noncomputable abbrev jX:Nat:=60
noncomputable abbrev gF:Nat:=61
noncomputable abbrev gr:Nat:=62
end Z
set_option maxHeartbeats 0
namespace Z
open PySem PySem.W PySem.Calls PyProof.Rows L2
noncomputable def O6 (s:Stmt):Pos:=match s with
 | .FunctionDef _ _ _ _ _ _ _ _ _ p=>p
 | _=>default
@[reducible] noncomputable def hs (s:String) (t:Nat):Value := .str (.ofString s) t
@[reducible] noncomputable def hy (P:Params) (s:String) (t:Nat) (v:Value):DictEntry:=⟨PyData.keyHash P (.ofString s),.str (.ofString s) t,v⟩
@[reducible] noncomputable def ht (xs:Array Value):Obj:=⟨.type "tuple",none,.seq xs 0,#[]⟩
@[reducible] noncomputable def hf (n q:String) (s:Stmt) (m:Value) (c:Addr):Obj:=⟨.type "function",none,.func (fnOf (.ofString n) (.ofString q) (dJ s) (cR s) (aj s) .none .none .none m none (.ref c) .none),#[]⟩
@[reducible] noncomputable def hc (n:String) (t1:Nat) (q:String) (t2 t3:Nat) (i1 i2 i3:Int) (r1:Addr) (b:Bool) (i4:Int) (r2 r3 r4 r5:Addr) (i5 i6:Int) (t4:Nat):Obj:=⟨.type "code",none,.fields #[.str (.ofString n) t1,.str (.ofString q) t2,.str (.ofString "/claim/cut.py") t3,.int i1 0,.int i2 0,.int 0 0,.int 0 0,.int i3 0,.ref r1,.bool b,.int i4 0,.ref r2,.none,.ref r3,.ref r4,.ref r5,.int i5 0,.int i6 0,.str (.ofString "/claim/cut.py") t4],#[]⟩
noncomputable def Tp:Params->Frag:=fun P=>
 (nat_lit 3,⟨(.type "dict"),none,(.dict #[hy P "__name__" 165 (hs "law_oddlong_k36_places_by_fars" 564),hy P "__doc__" 166 .none,hy P "__package__" 167 .none,hy P "__loader__" 168 (.builtin "__main__.__loader__#opaque"),hy P "__spec__" 169 .none,hy P "__annotations__" 170 (.ref 6),hy P "__builtins__" 171 (.ref 4),hy P "__file__" 173 (hs "/claim/cut.py" 172),hy P "__cached__" 174 .none,hy P "OddError" 206 (.ref 24),hy P "NoForm" 231 (.ref 44),hy P "TooFar" 256 (.ref 63),hy P "SIGNS" 260 (hs "01" 259),hy P "SMALL_LETTERS" 262 (hs "abcdefghijklmnopqrstuvwxyz" 261),hy P "LONGEST_NAME" 264 (.int 8 263),hy P "SPOT_NAMES" 269 (.ref 66),hy P "SIZE_NAMES" 279 (.ref 67),hy P "JUMPS" 282 (.ref 68),hy P "PARTS" 320 (.ref 69),hy P "made_of" 328 (.ref 87),hy P "is_name" 335 (.ref 94),hy P "is_code" 342 (.ref 101),hy P "two_to" 351 (.ref 108),hy P "figures_of" 361 (.ref 115),hy P "rest_of" 369 (.ref 122),hy P "is_number" 376 (.ref 129),hy P "SKIP_FIGURES" 380 (.int 3 379),hy P "put_bare" 391 (.ref 136),hy P "put_part" 401 (.ref 143),hy P "put_distance" 409 (.ref 150),hy P "is_reached" 418 (.ref 157),hy P "places_by" 429 (.ref 164),hy P "bare_of" 439 (.ref 171),hy P "row_sizes" 445 (.ref 176),hy P "row_size" 454 (.ref 183),hy P "places_with" 460 (.ref 188),hy P "is_book" 468 (.ref 193),hy P "is_entry" 475 (.ref 200),hy P "free" 482 (.ref 207),hy P "clash" 494 (.ref 214),hy P "LEAST_NEAR" 498 (.int 2 497),hy P "MOST_NEAR" 500 (.int 8 499),hy P "MOST_FAR" 502 (.int 16 501),hy P "Form" 540 (.ref 231),hy P "first_wrong" 551 (.ref 242),hy P "is_free_book_of" 557 (.ref 247),hy P "far_is_shorter" 563 (.ref 252),hy P "_law_begin" 573 (.ref 259),hy P "_law_take" 587 (.ref 266),hy P "_law_same" 593 (.ref 271),hy P "_law_mixed" 603 (.ref 278),hy P "_law_codes" 609 (.ref 283),hy P "_law_kinds" 615 (.ref 290),hy P "_law_sizes" 621 (.ref 297),hy P "_law_parts" 636 (.ref 304),hy P "_law_form" 643 (.ref 311),hy P "_law_figures" 653 (.ref 318),hy P "_law_power" 662 (.ref 325),hy P "_law_far_word" 669 (.ref 332),hy P "_law_put" 675 (.ref 337),hy P "_law_row" 688 (.ref 344),hy P "_law_program" 694 (.ref 349),hy P "_law_bare" 703 (.ref 356),hy P "_law_places" 715 (.ref 363),hy P "law" 721 (.ref 368)] 65),#[]⟩) ::
 (nat_lit 23,⟨(.type "dict"),none,(.dict #[hy P "__module__" 196 (hs "oddlong.errors" 187),hy P "__firstlineno__" 200 (.int 2 199),hy P "__static_attributes__" 201 (.ref 22),hy P "__weakref__" 203 (.ref 25),hy P "__doc__" 204 .none] 3),#[]⟩) ::
 (nat_lit 24,⟨(.type "type"),none,(.cls ⟨(.ofString "OddError"),[(.type "ValueError")],[(.ref 24),(.type "ValueError"),(.type "Exception"),(.type "BaseException"),(.type "object")],23,(.ofString "OddError"),true,[],[(.ref 44),(.ref 63)],false,none,false⟩),#[(some (.ref 15)),none,(some (hs "OddError" 189)),(some (hs "OddError" 197)),(some (.builtin "ValueError.__new__")),(some (.bool true))]⟩) ::
 (nat_lit 40,hc "__init__" 219 "NoForm.__init__" 220 221 6 2 3 35 true 181 36 37 38 39 224 6 225) ::
 (nat_lit 41,hf "__init__" "NoForm.__init__" (inClass (top 2) 0) (hs "oddlong.errors" 187) 40) ::
 (nat_lit 43,⟨(.type "dict"),none,(.dict #[hy P "__module__" 214 (hs "oddlong.errors" 187),hy P "__firstlineno__" 218 (.int 4 217),hy P "__init__" 226 (.ref 41),hy P "__static_attributes__" 228 (.ref 42),hy P "__doc__" 229 .none] 2),#[]⟩) ::
 (nat_lit 44,⟨(.type "type"),none,(.cls ⟨(.ofString "NoForm"),[(.ref 24)],[(.ref 44),(.ref 24),(.type "ValueError"),(.type "Exception"),(.type "BaseException"),(.type "object")],43,(.ofString "NoForm"),true,[],[],false,none,false⟩),#[(some (.ref 28)),none,(some (hs "NoForm" 207)),(some (hs "NoForm" 215)),(some (.builtin "ValueError.__new__")),(some (.bool true))]⟩) ::
 (nat_lit 59,hc "__init__" 244 "TooFar.__init__" 245 246 10 2 3 54 true 181 55 56 57 58 249 10 250) ::
 (nat_lit 60,hf "__init__" "TooFar.__init__" (inClass (top 3) 0) (hs "oddlong.errors" 187) 59) ::
 (nat_lit 62,⟨(.type "dict"),none,(.dict #[hy P "__module__" 239 (hs "oddlong.errors" 187),hy P "__firstlineno__" 243 (.int 8 242),hy P "__init__" 251 (.ref 60),hy P "__static_attributes__" 253 (.ref 61),hy P "__doc__" 254 .none] 2),#[]⟩) ::
 (nat_lit 63,⟨(.type "type"),none,(.cls ⟨(.ofString "TooFar"),[(.ref 24)],[(.ref 63),(.ref 24),(.type "ValueError"),(.type "Exception"),(.type "BaseException"),(.type "object")],62,(.ofString "TooFar"),true,[],[],false,none,false⟩),#[(some (.ref 47)),none,(some (hs "TooFar" 232)),(some (hs "TooFar" 240)),(some (.builtin "ValueError.__new__")),(some (.bool true))]⟩) ::
 (nat_lit 66,ht #[(hs "a" 265),(hs "b" 266),(hs "c" 267),(hs "d" 268)]) ::
 (nat_lit 67,ht #[(hs "none" 270),(hs "one" 271),(hs "two" 272),(hs "three" 273),(hs "four" 274),(hs "five" 275),(hs "six" 276),(hs "seven" 277),(hs "eight" 278)]) ::
 (nat_lit 68,ht #[(hs "jump" 280),(hs "zero" 281)]) ::
 (nat_lit 69,⟨(.type "dict"),none,(.dict #[hy P "set" 283 (.ref 70),hy P "add" 286 (.ref 71),hy P "take" 289 (.ref 72),hy P "tell" 292 (.ref 73),hy P "ask" 294 (.ref 74),hy P "jump" 296 (.ref 75),hy P "zero" 298 (.ref 76),hy P "stop" 301 (.ref 77),hy P "farjump" 302 (.ref 78),hy P "farzero" 304 (.ref 79),hy P "skip" 307 (.ref 80)] 11),#[]⟩) ::
 (nat_lit 70,ht #[(hs "spot" 284),(hs "number" 285)]) ::
 (nat_lit 71,ht #[(hs "spot" 287),(hs "spot" 288)]) ::
 (nat_lit 72,ht #[(hs "spot" 290),(hs "spot" 291)]) ::
 (nat_lit 73,ht #[(hs "spot" 293)]) ::
 (nat_lit 74,ht #[(hs "spot" 295)]) ::
 (nat_lit 75,ht #[(hs "near" 297)]) ::
 (nat_lit 76,ht #[(hs "spot" 299),(hs "near" 300)]) ::
 (nat_lit 77,ht #[]) ::
 (nat_lit 78,ht #[(hs "far" 303)]) ::
 (nat_lit 79,ht #[(hs "spot" 305),(hs "far" 306)]) ::
 (nat_lit 80,ht #[(hs "many" 308)]) ::
 (nat_lit 86,hc "made_of" 321 "made_of" 322 323 20 2 3 81 true 181 82 83 84 85 326 20 327) ::
 (nat_lit 87,hf "made_of" "made_of" (top 12) (hs "oddlong.shared" 257) 86) ::
 (nat_lit 93,hc "is_name" 329 "is_name" 330 331 22 1 3 88 true 181 89 90 91 92 333 22 334) ::
 (nat_lit 94,hf "is_name" "is_name" (top 13) (hs "oddlong.shared" 257) 93) ::
 (nat_lit 100,hc "is_code" 336 "is_code" 337 338 24 1 3 95 true 181 96 97 98 99 340 24 341) ::
 (nat_lit 101,hf "is_code" "is_code" (top 14) (hs "oddlong.shared" 257) 100) ::
 (nat_lit 107,hc "two_to" 343 "two_to" 344 345 26 1 3 102 true 181 103 104 105 106 349 26 350) ::
 (nat_lit 108,hf "two_to" "two_to" (top 15) (hs "oddlong.shared" 257) 107) ::
 (nat_lit 114,hc "figures_of" 352 "figures_of" 353 354 31 2 3 109 true 181 110 111 112 113 359 31 360) ::
 (nat_lit 115,hf "figures_of" "figures_of" (top 16) (hs "oddlong.shared" 257) 114) ::
 (nat_lit 121,hc "rest_of" 362 "rest_of" 363 364 37 2 3 116 true 181 117 118 119 120 367 37 368) ::
 (nat_lit 122,hf "rest_of" "rest_of" (top 17) (hs "oddlong.shared" 257) 121) ::
 (nat_lit 128,hc "is_number" 370 "is_number" 371 372 43 1 3 123 true 181 124 125 126 127 374 43 375) ::
 (nat_lit 129,hf "is_number" "is_number" (top 18) (hs "oddlong.shared" 257) 128) ::
 (nat_lit 135,hc "put_bare" 381 "put_bare" 382 383 47 2 3 130 true 181 131 132 133 134 389 47 390) ::
 (nat_lit 136,hf "put_bare" "put_bare" (top 21) (hs "oddlong.bare" 377) 135) ::
 (nat_lit 142,hc "put_part" 392 "put_part" 393 394 52 3 3 137 true 181 138 139 140 141 399 52 400) ::
 (nat_lit 143,hf "put_part" "put_part" (top 22) (hs "oddlong.bare" 377) 142) ::
 (nat_lit 149,hc "put_distance" 402 "put_distance" 403 404 61 2 3 144 true 181 145 146 147 148 407 61 408) ::
 (nat_lit 150,hf "put_distance" "put_distance" (top 23) (hs "oddlong.bare" 377) 149) ::
 (nat_lit 156,hc "is_reached" 410 "is_reached" 411 412 67 2 3 151 true 181 152 153 154 155 416 67 417) ::
 (nat_lit 157,hf "is_reached" "is_reached" (top 24) (hs "oddlong.bare" 377) 156) ::
 (nat_lit 163,hc "places_by" 421 "places_by" 422 423 71 3 3 158 true 181 159 160 161 162 427 71 428) ::
 (nat_lit 164,hf "places_by" "places_by" (top 26) (hs "oddlong.making" 419) 163) ::
 (nat_lit 170,hc "bare_of" 430 "bare_of" 431 432 73 3 3 165 true 181 166 167 168 169 437 73 438) ::
 (nat_lit 171,hf "bare_of" "bare_of" (top 27) (hs "oddlong.making" 419) 170) ::
 (nat_lit 175,⟨(.type "code"),none,(.fields #[(hs "row_sizes" 440),(hs "row_sizes" 441),(hs "/claim/cut.py" 442),(.int 78 0),(.int 2 0),(.int 0 0),(.int 0 0),(.int 3 0),(.ref 172),(.bool true),(.int 181 0),(.ref 173),.none,.none,.none,(.ref 174),(.int 443 0),(.int 78 0),(hs "/claim/cut.py" 444)]),#[]⟩) ::
 (nat_lit 176,hf "row_sizes" "row_sizes" (top 28) (hs "oddlong.making" 419) 175) ::
 (nat_lit 182,hc "row_size" 446 "row_size" 447 448 80 3 3 177 true 181 178 179 180 181 452 80 453) ::
 (nat_lit 183,hf "row_size" "row_size" (top 29) (hs "oddlong.making" 419) 182) ::
 (nat_lit 187,⟨(.type "code"),none,(.fields #[(hs "places_with" 455),(hs "places_with" 456),(hs "/claim/cut.py" 457),(.int 82 0),(.int 2 0),(.int 0 0),(.int 0 0),(.int 3 0),(.ref 184),(.bool true),(.int 181 0),(.ref 185),.none,.none,.none,(.ref 186),(.int 458 0),(.int 82 0),(hs "/claim/cut.py" 459)]),#[]⟩) ::
 (nat_lit 188,hf "places_with" "places_with" (top 30) (hs "oddlong.making" 419) 187) ::
 (nat_lit 192,⟨(.type "code"),none,(.fields #[(hs "is_book" 463),(hs "is_book" 464),(hs "/claim/cut.py" 465),(.int 89 0),(.int 1 0),(.int 0 0),(.int 0 0),(.int 3 0),(.ref 189),(.bool true),(.int 181 0),(.ref 190),.none,.none,.none,(.ref 191),(.int 466 0),(.int 89 0),(hs "/claim/cut.py" 467)]),#[]⟩) ::
 (nat_lit 193,hf "is_book" "is_book" (top 32) (hs "oddlong.books" 461) 192) ::
 (nat_lit 199,hc "is_entry" 469 "is_entry" 470 471 95 1 3 194 true 181 195 196 197 198 473 95 474) ::
 (nat_lit 200,hf "is_entry" "is_entry" (top 33) (hs "oddlong.books" 461) 199) ::
 (nat_lit 206,hc "free" 476 "free" 477 478 97 1 3 201 true 181 202 203 204 205 480 97 481) ::
 (nat_lit 207,hf "free" "free" (top 34) (hs "oddlong.books" 461) 206) ::
 (nat_lit 213,hc "clash" 483 "clash" 484 485 99 1 3 208 true 181 209 210 211 212 492 99 493) ::
 (nat_lit 214,hf "clash" "clash" (top 35) (hs "oddlong.books" 461) 213) ::
 (nat_lit 227,hc "__init__" 515 "Form.__init__" 516 517 111 6 3 222 true 181 223 224 225 226 525 111 526) ::
 (nat_lit 228,hf "__init__" "Form.__init__" (inClass (top 40) 0) (hs "oddlong.forms" 495) 227) ::
 (nat_lit 230,⟨(.type "dict"),none,(.dict #[hy P "__module__" 510 (hs "oddlong.forms" 495),hy P "__firstlineno__" 514 (.int 109 513),hy P "__init__" 527 (.ref 228),hy P "__static_attributes__" 533 (.ref 229),hy P "__dict__" 535 (.ref 232),hy P "__weakref__" 537 (.ref 233),hy P "__doc__" 538 .none] 4),#[]⟩) ::
 (nat_lit 231,⟨(.type "type"),none,(.cls ⟨(.ofString "Form"),[(.type "object")],[(.ref 231),(.type "object")],230,(.ofString "Form"),true,[],[],false,none,false⟩),#[none,none,(some (hs "Form" 503)),(some (hs "Form" 511)),(some (.builtin "object.__new__")),(some (.bool true))]⟩) ::
 (nat_lit 241,hc "first_wrong" 541 "first_wrong" 542 543 120 5 3 236 true 181 237 238 239 240 549 120 550) ::
 (nat_lit 242,hf "first_wrong" "first_wrong" (top 41) (hs "oddlong.forms" 495) 241) ::
 (nat_lit 246,⟨(.type "code"),none,(.fields #[(hs "is_free_book_of" 552),(hs "is_free_book_of" 553),(hs "/claim/cut.py" 554),(.int 132 0),(.int 2 0),(.int 0 0),(.int 0 0),(.int 3 0),(.ref 243),(.bool true),(.int 181 0),(.ref 244),.none,.none,.none,(.ref 245),(.int 555 0),(.int 132 0),(hs "/claim/cut.py" 556)]),#[]⟩) ::
 (nat_lit 247,hf "is_free_book_of" "is_free_book_of" (top 42) (hs "oddlong.forms" 495) 246) ::
 (nat_lit 251,⟨(.type "code"),none,(.fields #[(hs "far_is_shorter" 558),(hs "far_is_shorter" 559),(hs "/claim/cut.py" 560),(.int 137 0),(.int 3 0),(.int 0 0),(.int 0 0),(.int 3 0),(.ref 248),(.bool true),(.int 181 0),(.ref 249),.none,.none,.none,(.ref 250),(.int 561 0),(.int 137 0),(hs "/claim/cut.py" 562)]),#[]⟩) ::
 (nat_lit 252,hf "far_is_shorter" "far_is_shorter" (top 43) (hs "oddlong.forms" 495) 251) ::
 (nat_lit 258,hc "_law_begin" 566 "_law_begin" 567 568 141 1 3 253 true 181 254 255 256 257 571 141 572) ::
 (nat_lit 259,hf "_law_begin" "_law_begin" (top 45) (hs "law_oddlong_k36_places_by_fars" 564) 258) ::
 (nat_lit 265,hc "_law_take" 574 "_law_take" 575 576 146 2 3 260 true 181 261 262 263 264 585 146 586) ::
 (nat_lit 266,hf "_law_take" "_law_take" (top 46) (hs "law_oddlong_k36_places_by_fars" 564) 265) ::
 (nat_lit 270,⟨(.type "code"),none,(.fields #[(hs "_law_same" 588),(hs "_law_same" 589),(hs "/claim/cut.py" 590),(.int 158 0),(.int 2 0),(.int 0 0),(.int 0 0),(.int 3 0),(.ref 267),(.bool true),(.int 181 0),(.ref 268),.none,.none,.none,(.ref 269),(.int 591 0),(.int 158 0),(hs "/claim/cut.py" 592)]),#[]⟩) ::
 (nat_lit 271,hf "_law_same" "_law_same" (top 47) (hs "law_oddlong_k36_places_by_fars" 564) 270) ::
 (nat_lit 277,hc "_law_mixed" 594 "_law_mixed" 595 596 172 2 3 272 true 181 273 274 275 276 601 172 602) ::
 (nat_lit 278,hf "_law_mixed" "_law_mixed" (top 48) (hs "law_oddlong_k36_places_by_fars" 564) 277) ::
 (nat_lit 282,⟨(.type "code"),none,(.fields #[(hs "_law_codes" 604),(hs "_law_codes" 605),(hs "/claim/cut.py" 606),(.int 178 0),(.int 3 0),(.int 0 0),(.int 0 0),(.int 3 0),(.ref 279),(.bool true),(.int 181 0),(.ref 280),.none,.none,.none,(.ref 281),(.int 607 0),(.int 178 0),(hs "/claim/cut.py" 608)]),#[]⟩) ::
 (nat_lit 283,hf "_law_codes" "_law_codes" (top 49) (hs "law_oddlong_k36_places_by_fars" 564) 282) ::
 (nat_lit 289,hc "_law_kinds" 610 "_law_kinds" 611 612 188 0 3 284 true 181 285 286 287 288 613 188 614) ::
 (nat_lit 290,hf "_law_kinds" "_law_kinds" (top 50) (hs "law_oddlong_k36_places_by_fars" 564) 289) ::
 (nat_lit 296,hc "_law_sizes" 616 "_law_sizes" 617 618 190 0 3 291 true 181 292 293 294 295 619 190 620) ::
 (nat_lit 297,hf "_law_sizes" "_law_sizes" (top 51) (hs "law_oddlong_k36_places_by_fars" 564) 296) ::
 (nat_lit 303,hc "_law_parts" 622 "_law_parts" 623 624 192 1 3 298 true 181 299 300 301 302 634 192 635) ::
 (nat_lit 304,hf "_law_parts" "_law_parts" (top 52) (hs "law_oddlong_k36_places_by_fars" 564) 303) ::
 (nat_lit 310,hc "_law_form" 637 "_law_form" 638 639 204 1 3 305 true 181 306 307 308 309 641 204 642) ::
 (nat_lit 311,hf "_law_form" "_law_form" (top 53) (hs "law_oddlong_k36_places_by_fars" 564) 310) ::
 (nat_lit 317,hc "_law_figures" 644 "_law_figures" 645 646 206 2 3 312 true 181 313 314 315 316 651 206 652) ::
 (nat_lit 318,hf "_law_figures" "_law_figures" (top 54) (hs "law_oddlong_k36_places_by_fars" 564) 317) ::
 (nat_lit 324,hc "_law_power" 654 "_law_power" 655 656 212 1 3 319 true 181 320 321 322 323 660 212 661) ::
 (nat_lit 325,hf "_law_power" "_law_power" (top 55) (hs "law_oddlong_k36_places_by_fars" 564) 324) ::
 (nat_lit 331,hc "_law_far_word" 663 "_law_far_word" 664 665 217 1 3 326 true 181 327 328 329 330 667 217 668) ::
 (nat_lit 332,hf "_law_far_word" "_law_far_word" (top 56) (hs "law_oddlong_k36_places_by_fars" 564) 331) ::
 (nat_lit 336,⟨(.type "code"),none,(.fields #[(hs "_law_put" 670),(hs "_law_put" 671),(hs "/claim/cut.py" 672),(.int 219 0),(.int 2 0),(.int 0 0),(.int 0 0),(.int 3 0),(.ref 333),(.bool true),(.int 181 0),(.ref 334),.none,.none,.none,(.ref 335),(.int 673 0),(.int 219 0),(hs "/claim/cut.py" 674)]),#[]⟩) ::
 (nat_lit 337,hf "_law_put" "_law_put" (top 57) (hs "law_oddlong_k36_places_by_fars" 564) 336) ::
 (nat_lit 343,hc "_law_row" 676 "_law_row" 677 678 238 3 3 338 true 181 339 340 341 342 686 238 687) ::
 (nat_lit 344,hf "_law_row" "_law_row" (top 58) (hs "law_oddlong_k36_places_by_fars" 564) 343) ::
 (nat_lit 348,⟨(.type "code"),none,(.fields #[(hs "_law_program" 689),(hs "_law_program" 690),(hs "/claim/cut.py" 691),(.int 251 0),(.int 2 0),(.int 0 0),(.int 0 0),(.int 3 0),(.ref 345),(.bool true),(.int 181 0),(.ref 346),.none,.none,.none,(.ref 347),(.int 692 0),(.int 251 0),(hs "/claim/cut.py" 693)]),#[]⟩) ::
 (nat_lit 349,hf "_law_program" "_law_program" (top 59) (hs "law_oddlong_k36_places_by_fars" 564) 348) ::
 (nat_lit 355,hc "_law_bare" 695 "_law_bare" 696 697 254 3 3 350 true 181 351 352 353 354 701 254 702) ::
 (nat_lit 356,hf "_law_bare" "_law_bare" (top 60) (hs "law_oddlong_k36_places_by_fars" 564) 355) ::
 (nat_lit 362,hc "_law_places" 704 "_law_places" 705 706 258 3 3 357 true 181 358 359 360 361 713 258 714) ::
 (nat_lit 363,hf "_law_places" "_law_places" (top 61) (hs "law_oddlong_k36_places_by_fars" 564) 362) ::
 (nat_lit 367,⟨(.type "code"),none,(.fields #[(hs "law" 716),(hs "law" 717),(hs "/claim/cut.py" 718),(.int 263 0),(.int 1 0),(.int 0 0),(.int 0 0),(.int 3 0),(.ref 364),(.bool true),(.int 181 0),(.ref 365),.none,.none,.none,(.ref 366),(.int 719 0),(.int 263 0),(hs "/claim/cut.py" 720)]),#[]⟩) ::
 (nat_lit 368,hf "law" "law" (top 62) (hs "law_oddlong_k36_places_by_fars" 564) 367)::[]
noncomputable def VI:List Addr:=3::23::24::40::41::43::44::59::60::62::63::66::67::68::69::70::71::72::73::74::75::76::77::78::79::80::86::87::93::94::100::101::107::108::114::115::121::122::128::129::135::136::142::143::149::150::156::157::163::164::170::171::175::176::182::183::187::188::192::193::199::200::206::207::213::214::227::228::230::231::241::242::246::247::251::252::258::259::265::266::270::271::277::278::282::283::289::290::296::297::303::304::310::311::317::318::324::325::331::332::336::337::343::344::348::349::355::356::362::363::367::368::[]
noncomputable def Cm:Program:=view PySem.Challenge.pw_oddlong_k36_places_by_fars [1,2,3,5,6,7,8,9,10,11,12,13,14,15,16,17,18,20,21,22,23,24,26,27,28,29,30,32,33,34,35,37,38,39,40,41,42,43,45,46,47,48,49,50,51,52,53,54,55,56,57,58,59,60,61,62]
noncomputable def E9:List Str:=[.ofString "PARTS"]
theorem L1:∀P,VI=(Tp P).map (·.1):=fun _=>by kernel_rfl
noncomputable abbrev Cj:Hook:=kHook Tp VI L1
noncomputable abbrev OG:Shared->Bool:=fun s=>xlAt Cm [] s&&recOk (RowW.records (OpenRow.toRowW (OpenLaw.row PySem.Challenge.rw_oddlong_k36_places_by_fars))) s
theorem HP {p q:Program}{loose:List Str}{Xt:Shared->Bool}{α:Type}{Yf:Shared -> α}{Ya:World -> α}{N:Nat}{g0:Bool}(e:opening p=plainProg p.main.scope.names)(hN:Nat.ble 600 N=true)(f:∀s,fenceModules? p s=some s)
  (h:∀w:World,(fun os=>(topFrom treeTable p w N ⟨boot_heap w.params,Array.mk [],boot_drawn,boot_toks,os⟩).map fun s=>(openSeen q loose (importedModules p.main.body) Xt g0 s,Yf s))=fun _=>some (openGood q loose,Ya w)):LeftO p q loose Xt Yf Ya N g0:=fun w=>by
 obtain⟨⟨hp,gs,d,k,os⟩,e1,e2⟩:=Option.map_eq_some_iff.mp (boot_open e hN f w)
 obtain⟨rfl,rfl,rfl,rfl⟩:hp=boot_heap w.params/\gs=Array.mk []/\d=boot_drawn/\k=boot_toks:=by simpa using e2
 unfold openEnds
 rw[e1]
 exact congrFun (h w) os
theorem HB:OpenLaw.wellSaid PySem.Challenge.rw_oddlong_k36_places_by_fars=true:=by
 rw[PySem.W.Fast.te9446332074065402090]
 kernel_rfl
theorem Ek (w:World):(fun os=>(topFrom treeTable PySem.Challenge.pw_oddlong_k36_places_by_fars (w.withFollow "special-get-raises" false) 5138 ⟨boot_heap (w.withFollow "special-get-raises" false).params,Array.mk [],boot_drawn,boot_toks,os⟩).map fun s=>(openSeen Cm E9 (importedModules PySem.Challenge.pw_oddlong_k36_places_by_fars.main.body) OG true s,Hook.obs Cj s))=fun _=>some (openGood Cm E9,Hook.val Cj (w.withFollow "special-get-raises" false)):=by
 unfold topFrom
 rw[PySem.W.Fast.te14082659384304107361,PySem.W.Fast.te14364793385576792824,PySem.W.Fast.te4187177175401517315]
 kernel_rfl
theorem GK (w:World):(fun os=>(topFrom treeTable PySem.Challenge.pw_oddlong_k36_places_by_fars (w.withFollow "special-get-raises" true) 5138 ⟨boot_heap (w.withFollow "special-get-raises" true).params,Array.mk [],boot_drawn,boot_toks,os⟩).map fun s=>(openSeen Cm E9 (importedModules PySem.Challenge.pw_oddlong_k36_places_by_fars.main.body) OG true s,Hook.obs Cj s))=fun _=>some (openGood Cm E9,Hook.val Cj (w.withFollow "special-get-raises" true)):=by
 unfold topFrom
 rw[PySem.W.Fast.te14082659384304107361,PySem.W.Fast.te14364793385576792824,PySem.W.Fast.te4187177175401517315]
 kernel_rfl
theorem K4 (w:World):(fun os=>(topFrom treeTable PySem.Challenge.pw_oddlong_k36_places_by_fars (w) 5138 ⟨boot_heap (w).params,Array.mk [],boot_drawn,boot_toks,os⟩).map fun s=>(openSeen Cm E9 (importedModules PySem.Challenge.pw_oddlong_k36_places_by_fars.main.body) OG true s,Hook.obs Cj s))=fun _=>some (openGood Cm E9,Hook.val Cj (w)):=byRow2 "special-get-raises" (P:=fun w=>(fun os=>(topFrom treeTable PySem.Challenge.pw_oddlong_k36_places_by_fars (w) 5138 ⟨boot_heap (w).params,Array.mk [],boot_drawn,boot_toks,os⟩).map fun s=>(openSeen Cm E9 (importedModules PySem.Challenge.pw_oddlong_k36_places_by_fars.main.body) OG true s,Hook.obs Cj s))=fun _=>some (openGood Cm E9,Hook.val Cj (w))) Ek GK w
theorem GN:LeftO PySem.Challenge.pw_oddlong_k36_places_by_fars Cm E9 OG (Hook.obs Cj) (Hook.val Cj) 5138 true:=HP rfl rfl (fun _=>rfl) K4
noncomputable def VZ:DefRec:=⟨.ofString "law",dJ (top gr),cR (top gr),aj (top gr),O6 (top gr)⟩
theorem FA (hw:RowW.promised (OpenRow.toRowW (OpenLaw.row PySem.Challenge.rw_oddlong_k36_places_by_fars)))(h:WalkO Cm E9 (XL Cm []) (InK Tp) (OpenRow.toRowW (OpenLaw.row PySem.Challenge.rw_oddlong_k36_places_by_fars)) VZ [] fun f vs=>PySem.call f vs):OpenLaw.Holds PySem.Challenge.rw_oddlong_k36_places_by_fars:=
 holds_law HB fun sd=>holds_open (r:=OpenLaw.row PySem.Challenge.rw_oddlong_k36_places_by_fars) (d:=VZ) (kwd:=[]) GN (Hook.of Cj) (Hook.keeps Cj) (fun s e=>xl_of s (Bool.and_eq_true_iff.mp e).1) XL.keeps (by kernel_rfl) (by kernel_rfl) (by kernel_rfl) (fun s e=>recFacts_of (Bool.and_eq_true_iff.mp e).2) rfl sd (by decide +kernel) ⟨rfl,rfl,rfl,rfl,rfl,by decide +kernel⟩ hw h
end Z
set_option maxHeartbeats 4000000
namespace L2
open PySem PySem.Spec PyProof.Rows
abbrev lr:Value->Shared->Prop:=fun _ _=>False
theorem cp {α:Type}{M:Model}{A:Around}{t:Sem α}{Q: α->Shared->Prop}{E:Value->Shared->Prop}{s:Shared}(h:wpAny M A t Q lr s):wpAny M A t Q E s:=
 wpAny_mono h (fun _ _ q=>q) fun _ _ z=>z.elim
theorem bR {a b:Addr}{n:Nat}(h:a<n)(h':n<=b):a≠b:=fun e=>absurd (Jq h h') (by rw[e];exact J7 _)
theorem j4 {a b:Addr}{n:Nat}(h:a<n)(h':n<=b):b≠a:=fun e=>bR h h' e.symm
theorem jQ (env:Env):∀(names:List (Str×NameKind)) (acc:List (Str×Addr)),
  (∀y∈names,y.2 = .free->∃c,env.cells.lookup y.1=some c)->(∀n c,acc.lookup n=some c->env.cells.lookup n=some c) ->
  ∃cl,(forIn names acc fun(x:Str×NameKind) (cs:List (Str×Addr))=>(if (x.2==NameKind.free)=true then do
    let a <-cellOf env x.1
    pure (ForInStep.yield ((x.1,a)::cs)) else pure (ForInStep.yield cs):Sem (ForInStep (List (Str×Addr)))))=pure cl /\
   (∀n c,cl.lookup n=some c->env.cells.lookup n=some c)/\(∀n c,acc.lookup n=some c->∃c',cl.lookup n=some c')/\∀y∈names,y.2 = .free->∃c,cl.lookup y.1=some c
 | [],acc,_,h2=>⟨acc,rfl,h2,fun _ c h=>⟨c,h⟩,fun _ h=>nomatch h⟩
 | (n,k)::r,acc,h1,h2=>by
  have hr:∀y∈r,y.2 = .free->∃c,env.cells.lookup y.1=some c:=fun y hy=>h1 y (Jo _ hy)
  by_cases hk:k = .free
  ·subst hk
   obtain⟨c,hc⟩:=h1 (n,.free) Jr rfl
   obtain⟨cl,e,p1,p2,p3⟩:=jQ env r ((n,c)::acc) hr (fun m d hm=>by
    rw[Ud] at hm
    by_cases q:m==n
    ·rw[q] at hm
     have:m=n:=by simpa using q
     subst this
     cases hm
     exact hc
    ·have q':(m==n)=false:=by simpa using q
     rw[q'] at hm
     exact h2 m d hm)
   refine⟨cl,?_,p1,fun m d hm =>?_,fun y hy hf =>?_⟩
   ·rw[Yn]
    rw[<-e]
    show(cellOf env n >>= fun a=>_) >>= _=_
    unfold cellOf
    rw[hc]
    rfl
   ·by_cases q:m=n
    ·subst q
     exact p2 m c (by rw[Ud];simp)
    ·exact p2 m d (by rw[Ud];simp -iota only [beq_eq_false_iff_ne.mpr q];exact hm)
   ·rcases Jv.mp hy with rfl|hy
    ·exact p2 n c (by rw[Ud];simp)
    ·exact p3 y hy hf
  ·refine ai.el (jQ env r acc hr h2) _ ?_
   rintro cl e p1 p2 p3
   refine⟨cl,?_,p1,p2,fun y hy hf =>?_⟩
   ·rw[Yn,<-e]
    have hb:(k==NameKind.free)=false:=by simpa using hk
    simp -iota only [hb,Us,if_false]
    rfl
   ·rcases Jv.mp hy with rfl|hy
    ·exact absurd hf hk
    ·exact p3 y hy hf
theorem jY {scope:Scope}{env:Env}(h:∀y∈scope.names,y.2 = .free->∃c,env.cells.lookup y.1=some c):
  ∃cl,closureFor scope env=pure cl/\(∀n c,cl.lookup n=some c->env.cells.lookup n=some c)/\∀y∈scope.names,y.2 = .free->∃c,cl.lookup y.1=some c:=by
 obtain⟨cl,e,p1,_,p3⟩:=jQ env scope.names [] h (fun n c h=>by simp at h)
 refine⟨cl,?_,p1,p3⟩
 unfold closureFor
 refine Eq.trans ?_ (congrArg (fun m=>m >>= fun(cs:List (Str×Addr))=>(pure cs:Sem _)) e)
 rfl
noncomputable def mH (ifs:List Expr)(env:Env):Sem Bool:=forIn ifs true fun c r=>if r=true then do let ok <-isTrue c env (eval c env);pure (ForInStep.yield ok) else pure (ForInStep.yield r)
section
variable {prog:Program}{w:World}{A:Around}{R:Result->Shared->Prop}{s:Shared}
theorem yk {elt target iter:Expr}{ifs:List Expr}{scope:Scope}{pos:Pos}{it acc:Value}{env:Env}(I:Nat->Shared->Prop)
  (turn:∀n s,I n s->wpAny (model prog w) A (pyNext it) (fun r s1=>match r with
   | none=>R (.ok .next) s1
   | some v=>wpAny (model prog w) A (letOwnedTupleGo target it v) (fun _ s1'=>wpAny (model prog w) A (assign target env v) (fun _ s2=>
     wpAny (model prog w) A (mH ifs env) (fun ok s3=>
      if ok=true then wpAny (model prog w) A (eval elt env) (fun x s4=>
       wpAny (model prog w) A (call (.builtin "list.append") [acc,x]) (fun _ s5=>∃m,m<n/\I m s5) lr s4) lr s3
      else ∃m,m<n/\I m s3) lr s2) lr s1') lr s1) lr s)
  (n:Nat) (h:I n s):codeAny (model prog w) A (.compLoop (.ListComp elt [⟨target,iter,ifs,0⟩] scope pos) 0 it acc env) R s:=by
 refine codeAny_loop rfl I (fun n s hI=>(show wpAny _ A (Sem.onRaise (compTurn (.ListComp elt [⟨target,iter,ifs,0⟩] scope pos) 0 it acc env) (fun x=>do noteFrame x env;theTreesLotGoes x)) _ _ s from wpAny_noted ?_)) n h
 rw[compTurn_list]
 refine wpAny_bind (wpAny_standAt (wpAny_bind (cp (bg (turn n s hI) fun r s1 h1 =>?_))))
 cases r with
 | none=>exact wpAny_pure h1
 | some v=>
  refine wpAny_bind (cp (bg h1 fun _ s1' Ib =>?_))
  refine wpAny_bind (cp (bg Ib fun _ s2 h2=>wpAny_bind (cp (bg h2 fun ok s3 h3 =>?_))))
  cases ok with
  | false=>exact wpAny_pure ⟨rfl,h3⟩
  | true=>exact wpAny_bind (wpAny_bind (cp (bg h3 fun x s4 h4=>wpAny_bind (cp (bg h4 fun _ s5 h5=>wpAny_pure (wpAny_pure ⟨rfl,h5⟩))))))
end
theorem gV.adopt {P:Program}{w:World}{H:Hp}{h:Heap}{a:Addr}{o:HO}(x:gV P w H h)(hn:H a=none)(new:bz P w (upd H a o) h a o):gV P w (upd H a o) h:=fun b u e=>by
 by_cases hb:b=a
 ·subst hb;rw[ay] at e;cases e;exact new
 ·rw[ak hb] at e
  exact(x b u e).fZ (fun c v _ q=>q) (fun c q=>by rw[ak (aw q hn)];exact q) fun c xs q=>by rw[ak (aw q hn)];exact q
structure fk (X:Cx)(scope:Scope)(Nc Fc:List Str)(js:List Nat):Prop where
 kind:scope.kind = .function
 nocell:∀y∈scope.names,y.2 ≠ .cell
 names:∀y∈scope.names,y.2 = .local->scope.names.lookup y.1=some .local
 free:∀y∈scope.names,y.2 = .free->X.env.kindOf y.1=some .cell∨X.env.kindOf y.1=some .free
 frees:∀(k:Nat) (x:Str),Fc[k]? = some x->scope.names.lookup x=some .free/\∃j,js[k]? = some j/\X.N[j]? = some x
 lens:js.length=Fc.length
noncomputable def cW (σ:St)(js:List Nat):St:=js.map fun j=>(σ[j]?).join
noncomputable def j0 (X:Cx)(Nc Fc:List Str)(scope:Scope)(cl:List (Str×Addr))(C:Addr)(s:Shared)(H:Hp)(fp:List Addr):Cx:=
 { X with N:=Nc++Fc,s₀:=s,H₀:=H,env:=compEnvC scope cl C X.env,outer:=X.stack,stack:=X.stack,ex:=fp,fn:=fun _=>false,pn:=[],xe:=lr }
theorem gJ {env:Env}:∀{names:List (Str×NameKind)} {x:Str} {k:NameKind},(names.map fun(n,k)=>if (k==NameKind.free&&env.scope.kind == .function&&env.kindOf n==some .cell) then (n,NameKind.cell) else (n,k)).lookup x=some k ->
  names.lookup x=some k∨(k = .cell/\names.lookup x=some .free)
 | [],_,_,h=>by simp at h
 | (n,k0)::r,x,k,h=>by
  have ih := @gJ env r x k
  rw[J0] at h
  dsimp only at h
  by_cases hx:x=n
  ·subst hx
   by_cases hc:(k0==NameKind.free&&env.scope.kind == .function&&env.kindOf x==some .cell)=true
   ·rw[if_pos hc] at h
    simp -iota only [Ud,beq_self_eq_true] at h
    have hk:k0 = .free:=by
     have:=(Jx _ _).mp ((Jx _ _).mp hc).1
     simpa using this.1
    subst hk
    cases h
    exact .inr ⟨rfl,by simp only[Ud,beq_self_eq_true]⟩
   ·rw[if_neg hc] at h
    simp -iota only [Ud,beq_self_eq_true] at h ⊢
    exact .inl h
  ·have hb:(x==n)=false:=beq_eq_false_iff_ne.mpr hx
   have e:Y0 x ((if (k0==NameKind.free&&env.scope.kind == .function&&env.kindOf n==some .cell)=true then (n,NameKind.cell) else (n,k0))::(r.map fun(n,k)=>if (k==NameKind.free&&env.scope.kind == .function&&env.kindOf n==some .cell) then (n,NameKind.cell) else (n,k)))=some k:=h
   have e2:Y0 x (r.map fun(n,k)=>if (k==NameKind.free&&env.scope.kind == .function&&env.kindOf n==some .cell) then (n,NameKind.cell) else (n,k))=some k:=by
    by_cases hc:(k0==NameKind.free&&env.scope.kind == .function&&env.kindOf n==some .cell)=true
    ·rw[if_pos hc] at e;simp -iota only [Ud,hb] at e;exact e
    ·rw[if_neg hc] at e;simp -iota only [Ud,hb] at e;exact e
   simp -iota only [Ud,hb]
   exact ih e2
theorem eQ {env:Env}:∀{names:List (Str×NameKind)} {x:Str},names.lookup x=some .free ->
  (names.map fun(n,k)=>if (k==NameKind.free&&env.scope.kind == .function&&env.kindOf n==some .cell) then (n,NameKind.cell) else (n,k)).lookup x=some .cell ∨
  (names.map fun(n,k)=>if (k==NameKind.free&&env.scope.kind == .function&&env.kindOf n==some .cell) then (n,NameKind.cell) else (n,k)).lookup x=some .free
 | [],_,h=>by simp at h
 | (n,k0)::r,x,h=>by
  have ih := @eQ env r x
  rw[J0]
  dsimp only
  by_cases hx:x=n
  ·subst hx
   simp -iota only [Ud,beq_self_eq_true] at h
   cases h
   by_cases hc:(NameKind.free==NameKind.free&&env.scope.kind == .function&&env.kindOf x==some .cell)=true
   ·rw[if_pos hc];left;simp only[Ud,beq_self_eq_true]
   ·rw[if_neg hc];right;simp only[Ud,beq_self_eq_true]
  ·have hb:(x==n)=false:=beq_eq_false_iff_ne.mpr hx
   simp -iota only [Ud,hb] at h
   by_cases hc:(k0==NameKind.free&&env.scope.kind == .function&&env.kindOf n==some .cell)=true
   ·rw[if_pos hc];simp -iota only [Ud,hb];exact ih h
   ·rw[if_neg hc];simp -iota only [Ud,hb];exact ih h
theorem bX:∀{l:List (Str×NameKind)} {x:Str} {k:NameKind},l.lookup x=some k->(x,k)∈l:=fun h=>PySem.mem_of_lookup h
section
variable {X:Cx}{pins:List (Addr×Obj)}{σ:St}{H:Hp}{s:Shared}{scope:Scope}{Nc Fc:List Str}{js:List Nat}{cl:List (Str×Addr)}{C D:Addr}{fp:List Addr}
theorem nj {x:Str}:(j0 X Nc Fc scope cl C s H fp).env.kindOf x=(scope.names.map fun(n,k)=>if (k==NameKind.free&&X.env.scope.kind == .function&&X.env.kindOf n==some .cell) then (n,NameKind.cell) else (n,k)).lookup x:=rfl
theorem oj (I:Inv X pins σ H s)(c:fk X scope Nc Fc js)(dn:∀n c,cl.lookup n=some c->X.env.cells.lookup n=some c)(jg:∀y∈scope.names,y.2 = .free->∃c,cl.lookup y.1=some c)
  (hC:s.heap.objs.size<=C) (hf:∀b∈fp,dE X pins H b) (ho:∀b∈fp,∃o,s.heap.get? b=some o):(j0 X Nc Fc scope cl C s H fp).Ok where
 mod:=I.ok.mod
 kind:=c.kind
 glob:=I.ok.glob
 blt:=I.ok.blt
 above:=hC
 inj:=fun x y a h1 h2=>I.ok.inj x y a (dn _ _ h1) (dn _ _ h2)
 has:=fun x hx=>by
  have key:scope.names.lookup x=some .free:=by
   rw[nj] at hx
   rcases hx with h|h
   ·rcases gJ h with q|⟨_,q⟩
    ·exact absurd rfl (c.nocell _ (bX q))
    ·exact q
   ·rcases gJ h with q|⟨q,_⟩
    ·exact q
    ·cases q
  exact jg _ (bX key) rfl
 cab:=fun _ _ h=>nomatch h
 hd:=I.ok.hd
 frames:=I.ok.frames
 stk := .inl rfl
 exf:=fun b hb=>⟨fun z=>by
   obtain⟨o,e⟩:=ho b hb
   exact bR (Jf e) hC z,fun x a e z=>(hf b hb).2.2.2.2.1 x a (dn _ _ e) z⟩
 bs:=fun b o e=>I.bs b o e
 bsz:=Jh I.ok.bsz I.sz
 noex:=fun b o e hb=>by
  rcases(hf b hb).2.2.2.1 with z|z
  ·exact I.ok.noex b o e z
  ·exact absurd (Jq (Jf (I.ok.bs b o e).1) z) (J7 _)
 exfs:=fun b hb z=>by
  rcases Jv.mp (I.rQ b z) with q|q
  ·exact(hf b hb).2.1 q
  ·exact(hf b hb).2.2.1 q
 kZ:=I.stack
 frf:=I.tK
theorem G9 (I:Inv X pins σ H s)(c:fk X scope Nc Fc js)(dn:∀n c,cl.lookup n=some c->X.env.cells.lookup n=some c)(jg:∀y∈scope.names,y.2 = .free->∃c,cl.lookup y.1=some c)
  (hC:s.heap.objs.size<=C) (hD:s.heap.objs.size<=D) (MA:D≠C) (hf:∀b∈fp,dE X pins H b) (ho:∀b∈fp,∃o,s.heap.get? b=some o) {h1:Heap} {t1:Nat} {m:Str->Option Value} {ob:Obj}
  (hk:∀b o,s.heap.get? b=some o->h1.get? b=some o) (hm:h1.Ns C m) (YS:h1.get? D=some ob) (ZF:∀v,ob.data ≠ .cell v) :
  Inv (j0 X Nc Fc scope cl C s H fp) [(D,ob)] (Ju Nc.length none++cW σ js) H { s with heap:=h1,toks:=t1 }:=by
 refine⟨oj I c dn jg hC hf ho,rfl,I.bare,Un.kept hk,⟨m,hm,fun i x v e1 e2 e3 =>?_⟩,fun x a e =>?_,I.bC.fresh hC,fun x a e=>I.freeC x a (dn x a e),fun p hp =>?_,I.bC.kept hk,?_⟩
 ·have e1:(Nc++Fc)[i]? = some x:=e1
  have e2:(Ju Nc.length none++cW σ js)[i]? = some (some v):=e2
  by_cases hi:i<Nc.length
  ·rw[Uj (by simpa using hi),Yc] at e2
   split at e2<;>cases e2
  ·rw[Ui (by omega)] at e1
   rw[Ui (by rw[Ul];omega),Ul] at e2
   refine ai.el (c.frees _ _ e1) _ ?_
   rintro oV j hj hN
   have hv: σ[j]? = some (some v):=by
    unfold cW at e2
    rw[Ji,hj] at e2
    have e2:some ((σ[j]?).join)=some (some v):=e2
    cases q: σ[j]? with
    | none=>rw[q] at e2;cases e2
    | some z=>rw[q] at e2;cases e2;rfl
   have kx:=c.free _ (bX oV) rfl
   refine ai.el (I.loc) _ ?_
   rintro m0 hn0 E6
   have NH:Mi X.env.scope x:=by
    rcases kx with k|k
    ·exact .inr (.inl k)
    ·exact .inr (.inr k)
   refine ai.el (E6 j x v hN hv NH) _ ?_
   rintro u ru lk
   refine⟨u,ru,.inr ⟨?_,?_⟩⟩
   ·rw[nj];exact eQ oV
   ·obtain⟨a,ha⟩:=jg _ (bX oV) rfl
    refine⟨a,ha,?_⟩
    rcases lk with ⟨k,_⟩|⟨_,a',ha',hcell⟩
    ·rcases kx with q|q<;>(rw[k] at q;cases q)
    ·have e:=dn _ _ ha
     dsimp only at e
     rw[ha'] at e;cases e
     exact hcell.keeps hk
 ·obtain⟨v,z⟩:=I.cell x a (dn x a e)
  exact⟨v,z.keeps hk⟩
 ·have hp:p=(D,ob):=by
   have:p∈[(D,ob)]:=hp
   simpa using this
  subst hp
  refine⟨YS,I.bC.fresh hD,MA,fun z =>?_,ZF⟩
  have z:D∈gm X.stack:=z
  rcases Jv.mp (I.rQ D z) with q|q
  ·exact j4 I.lt hD q
  ·exact I.N5 hD q
 ·show(Ju Nc.length none++cW σ js).length=(Nc++Fc).length
  unfold cW
  rw[Jp,Jp,Ul,Jc,c.lens]
end
def HS (X:Cx)(ifs:List Expr)(t:TT):Prop:=
 ∀ ⦃pins:List (Addr×Obj)⦄ (s:Shared) (σ:St) (H:Hp) (Q:Bool->Hp->Prop),Inv X pins σ H s->t σ H Q->wpAny (model X.prog X.w) X.A (mH ifs X.env) (TP X pins σ Q) X.xe s
def NK:TT:=fun _ H Q=>Q true H
theorem dg {X:Cx}:HS X [] NK:=fun _ _ _ H _ I h=>wpAny_tests_nil ⟨H,I,h⟩
theorem tP {X:Cx}{c:Expr}{t:TT}(h:PT X c t):HS X [c] t:=fun pins s σ H Q I hw=>wpAny_tests_one (h s σ H Q I hw)
def zf (J:It)(n:Nat)(js:List Nat)(g:TG)(tc:TT)(te:TE)(σ:St)(H1:Hp)(fin:List V->Hp->Prop):Prop:=
 ∃W:Nat->Nat->List V->Hp->Prop,(∃m,W 0 m [] H1)/\∀i m ys H,W i m ys H ->
  (J.stop i H/\fin ys H) ∨
  (J.go i H/\ys.length<sizeLine/\∀x H',J.yld i H x H'->g x (Ju n none++cW σ js) H' fun σ2 H2=>tc σ2 H2 fun b H3=>
   if b=true then te σ2 H3 fun y H4=>∃m',m'<m/\W (i+1) m' (ys++[y]) H4 else ∃m',m'<m/\W (i+1) m' ys H3)
def Ij (wi:TI)(n:Nat)(js:List Nat)(g:TG)(tc:TT)(te:TE):TE:=fun σ H Q=>wi σ H fun J H1=>
 zf J n js g tc te σ H1 fun ys H2=>∀p,H2 p=none->Q (.ref p) (upd H2 p (.lst ys))
def Gk (n:Nat)(g:TG):Prop:=∀x σ H Q,g x σ H Q->g x σ H fun σ' H'=>Q σ' H'/\(∀j,n<=j -> σ'[j]? = σ[j]?) /\ σ'.length = σ.length
def Qk (n:Nat)(g:Bs):Prop:=∀x σ H Q,g x σ H Q->g x σ H fun σ' H'=>Q σ' H'/\(∀j,n<=j -> σ'[j]? = σ[j]?) /\ σ'.length = σ.length
theorem bG {n i:Nat}(h:i<n:=by decide):Gk n (md i):=fun x σ H Q q=>⟨q,fun j hj=>Yb (by omega),Y6⟩
theorem ky {n:Nat}:Qk n KH:=fun x σ H Q q=>⟨q.1,q.2,fun _ _=>rfl,rfl⟩
theorem df {n:Nat}{t:TG}{u:Bs}(h1:Gk n t)(h2:Qk n u)(mt:∀x σ H Q Q',(∀a b,Q a b->Q' a b)->t x σ H Q->t x σ H Q')(mu:∀x σ H Q Q',(∀a b,Q a b->Q' a b)->u x σ H Q->u x σ H Q'):Qk n (D7 t u):=fun x σ H Q q=>by
 obtain⟨v,r,e,q⟩:=q
 refine⟨v,r,e,mt _ _ _ _ _ (fun σ1 H1 z =>?_) (h1 _ _ _ _ q)⟩
 refine ai.el (z) _ ?_
 rintro z k1 l1
 exact mu _ _ _ _ _ (fun σ2 H2 ⟨z2,k2,l2⟩=>⟨z2,fun j hj=>(k2 j hj).trans (k1 j hj),l2.trans l1⟩) (h2 _ _ _ _ z)
theorem nQ {K:Ja}{n m:Nat}{t:Bs}(h:Qk n t):Gk n (Ko K m t):=fun x σ H Q q=>by
 obtain⟨a,xs,e,h1,h2,q⟩:=q
 exact⟨a,xs,e,h1,h2,h _ _ _ _ q⟩
theorem p8 {X:Cx}{elt tg iter:Expr}{ifs:List Expr}{scope:Scope}{pos:Pos}{Nc Fc:List Str}{js:List Nat}{wi:TI}{g:TG}{tc:TT}{te:TE}{use:Option (Value->Sem Unit)}{QV:Value->Shared->Prop}
  (eS:X.calm=true) (c:fk X scope Nc Fc js) (hi:PI X tg iter wi)
  (hg:∀cl C s H fp,PG (j0 X Nc Fc scope cl C s H fp) tg g) (AL:∀cl C s H fp,HS (j0 X Nc Fc scope cl C s H fp) ifs tc) (HU:∀cl C s H fp,PE (j0 X Nc Fc scope cl C s H fp) elt te) (gk:Gk Nc.length g)
  {pins:List (Addr×Obj)} {s:Shared} {σ:St} {H:Hp} {fin:List V->Hp->Prop} (I:Inv X pins σ H s)
  (h:wi σ H fun J H1=>zf J Nc.length js g tc te σ H1 fin)
  (behind:∀(C D:Addr) (m:Str->Option Value) (ys:List V) (H2:Hp) (s2:Shared),Inv X pins σ (upd H2 D (.lst ys)) s2->s2.heap.Ns C m->dE X pins (upd H2 D (.lst ys)) C->H2 D=none->fin ys H2->compPost (model X.prog X.w) X.A X.xe use QV (.ref D) C (.ok .next) s2)
  (hs:∀x,foldedSetIterable iter X.env x=pure x) :
  wpAny (model X.prog X.w) X.A (comprehension (.ListComp elt [⟨tg,iter,ifs,0⟩] scope pos) scope X.env (firstIterPos [⟨tg,iter,ifs,0⟩] pos) (newList []) false (eval iter X.env) use) QV X.xe s:=by
 obtain⟨cl,hclos,dn,jg⟩:=jY (scope:=scope) (env:=X.env) fun y hy hf=>I.ok.has y.1 (c.free y hy hf)
 refine wpAny_comprehension_free (use:=use) rfl hs hclos c.kind c.names ?_
 refine bg (hi s σ H _ I h) fun v s1 h1=>bg h1 fun MG s2 h2 =>?_
 obtain⟨it,fp,tn,J,H2,e,I2,T,eK,f2,W,⟨m0,w0⟩,turn⟩:=h2
 subst e
 refine wpAny_newObj_type (wpAny_newFunctionEnv c.nocell (by intro y hy;simp at hy) (fun h1 hns1 hsb1 =>?_) c.kind)
 dsimp only at hns1 hsb1 ⊢
 generalize hG:s2.heap.push { cls := .type "list",dict:=none,data := .seq ([]:List Value).toArray } = G at hns1 hsb1 ⊢
 have hC:G.objs.size=s2.heap.objs.size+1:=by rw[<-hG,J8]
 have MA:s2.heap.objs.size≠G.objs.size:=by rw[hC];exact Jm (Nat.lt_succ_self _)
 have hle:s2.heap.objs.size<=G.objs.size:=by rw[hC];exact Yr _
 have old:∀b o,s2.heap.get? b=some o->h1.get? b=some o:=fun b o e=>
  hsb1.extBut b o (bR (Jf e) hle) (Jb _ (hG▸Jb _ e))
 have gf:h1.PlainList s2.heap.objs.size #[]:=⟨_,hsb1.extBut _ _ MA (Jb _ (hG▸Jk _ rfl))⟩
 obtain⟨n0,gf⟩:=gf
 have fo:∀b∈fp,∃o,s2.heap.get? b=some o:=fun b hb=>let ⟨o,e,_⟩:=T.obj 0 _ eK b hb; ⟨o,e⟩
 have pL:∀b∈fp,b<s2.heap.objs.size:=fun b hb=>let ⟨o,e⟩:=fo b hb;Jf e
 let Xc:Cx:=j0 X Nc Fc scope cl G.objs.size s2 H2 fp
 let D:Addr:=s2.heap.objs.size
 have jH:∀{pl:List (Addr×Obj)} {H':Hp},(∀p∈pl,p.1=D)->(∀b∈fp,H' b=none)->∀b∈fp,dE Xc pl H' b:=fun{pl H'} hp hn b hb=>by
  refine⟨hn b hb,?_,?_,.inl hb,fun x a e =>?_,fun p hq =>?_⟩
  ·exact bR (pL b hb) hle
  ·exact(oj I2 c dn jg hle f2 fo).exfs b hb
  ·exact(f2 b hb).2.2.2.2.1 x a (dn _ _ e)
  ·have q:p∈([]:List (Addr×Obj))++pl:=hq
   rw[hp p (by simpa using q)]
   exact j4 (pL b hb) (Je _)
 have loop:∀t1,codeAny (model X.prog X.w) X.A (.compLoop (.ListComp elt [⟨tg,iter,ifs,0⟩] scope pos) 0 (.ref it) (.ref s2.heap.objs.size) (compEnvC scope cl G.objs.size X.env))
   (compPost (model X.prog X.w) X.A X.xe use QV (.ref s2.heap.objs.size) G.objs.size) { s2 with heap:=h1,toks:=t1 }:=by
  intro t1
  refine yk (fun n s'=>∃i ys H' au k,Inv Xc [(D,{ cls := .type "list",data := .seq au k })] (Ju Nc.length none++cW σ js) H' s'/\Vals ys au.toList/\ys.length<=sizeLine/\tn i s'.heap/\(∀b∈fp,H' b=none)/\W i n ys H') ?_ m0
   ⟨0,[],H2,#[],n0,G9 I2 c dn jg hle (Je _) MA f2 fo old hns1 gf (fun _ z=>nomatch z),.nil,Um _,T.keep _ _ _ eK (fun b hb o e=>old b o e),fun b hb=>(f2 b hb).1,w0⟩
  intro n s3
  refine ai.go ?_
  rintro i ys H3 au k I3 rv hz dv fr3 w3
  have EI:∀p∈[(D,({ cls := .type "list",data := .seq au k }:Obj))],p.1=D:=fun p hp=>congrArg Prod.fst (Jz.mp hp)
  rcases turn i n ys H3 w3 with ⟨stop,qn⟩|⟨go,hW,step⟩
  ·refine bg (T.done Xc rfl rfl rfl eS i _ s3 _ H3 lr I3 (jH EI fr3) dv stop) fun r s4 hz_ =>?_
   refine ai.el hz_ _ ?_
   clear hz_
   rintro hr I4
   subst hr
   show compPost _ _ _ _ _ _ _ _ _
   obtain⟨hDo,Hd,hDne,hDfs,_⟩:=I4.pin (D,_) (Jw _ Jr)
   have Se:D≠G.objs.size:=MA
   refine ai.el (I4.loc) _ ?_
   rintro mC hmC _
   have NA:H3 G.objs.size=none:=I4.free
   have Zt:∀b o,s2.heap.get? b=some o->b≠D:=fun b o e=>Jm (Jf e)
   have u:Un (gm X.stack) fp H2 H3 s2.heap s4.heap:=I4.base
   have Kg:H2 D=none:=I2.bC.fresh (Je _)
   have u':Un (gm X.stack) fp H2 (upd H3 D (.lst ys)) s2.heap s4.heap:=
    ⟨u.keep,u.slot,fun b o e n hx=>by rw[ak (Zt b o e)];exact u.free b o e n hx,u.there,
      fun b xs e=>by rw[ak (aw e Kg)];exact u.jw b xs e,fun b o xs e=>by rw[ak (aw e Kg)];exact u.jh b o xs e,
      fun b ps e=>by rw[ak (aw e Kg)];exact u.j3 b ps e⟩
   have Ee:gV X.prog X.w (upd H3 D (.lst ys)) s4.heap:=I4.bC.adopt Hd ⟨hz,au.toList,k,rv,by simpa using hDo⟩
   have wc:∀b∈fp,(b∈X.ex∨X.s₀.heap.objs.size<=b)/\b≠X.env.locals/\(∀x c,X.env.cells.lookup x=some c->c≠b)/\∀p∈X.pn++pins,p.1≠b:=fun b hb=>
    ⟨(f2 b hb).2.2.2.1,(f2 b hb).2.1,(f2 b hb).2.2.2.2.1,(f2 b hb).2.2.2.2.2⟩
   have Nz:s4.os=s2.os:=I4.os
   have J4:Inv X pins σ (upd H3 D (.lst ys)) s4:=I2.De (H':=upd H3 D (.lst ys)) Nz u' Ee I4.bare wc
   refine behind G.objs.size D mC ys H3 s4 J4 hmC (I2.eB hle ?_) Hd qn
   rw[ak (Ne.symm Se)]
   exact NA
  ·refine bg (T.item Xc rfl rfl rfl eS i _ s3 _ H3 lr I3 (jH EI fr3) dv go) fun r s4 hz_ =>?_
   refine ai.el hz_ _ ?_
   clear hz_
   rintro u hr h4
   subst hr
   show wpAny _ _ (letOwnedTupleGo tg (.ref it) u) _ _ _
   refine bg h4 fun _ s5 hz_ =>?_
   refine ai.el hz_ _ ?_
   clear hz_
   rintro x H5 I5 r5 y5 cB fr5
   have L8:=I5.pinned (jH EI fr5) (T.obj _ _ cB)
   refine bg (hg cl G.objs.size s2 H2 fp s5 _ H5 x u _ L8 r5 (gk _ _ _ _ (step x H5 y5))) fun _ s6 hz_ =>?_
   refine ai.el hz_ _ ?_
   clear hz_
   rintro σ6 H6 I6 q6 kσ kl
   refine bg (AL cl G.objs.size s2 H2 fp s6 σ6 H6 _ I6 q6) fun b s7 hz_ =>?_
   refine ai.el hz_ _ ?_
   clear hz_
   rintro H7 I7 q7
   have later:∀{σ':St} {H':Hp} {s':Shared},Inv Xc ([(D,({ cls := .type "list",data := .seq au k }:Obj))]++fw fp s5.heap) σ' H' s'->tn (i+1) s'.heap/\∀b∈fp,H' b=none:=fun{σ' H' s'} Iz=>by
    refine⟨T.keep _ _ _ cB fun b hb o e=>(Iz.pin (b,o) (Jw _ (Jw _ (cK hb e)))).1,fun b hb =>?_⟩
    refine ai.el (T.obj _ _ cB b hb) _ ?_
    rintro o e d
    exact(Iz.pin (b,o) (Jw _ (Jw _ (cK hb e)))).2.1
   have back:∀{pl:List (Addr×Obj)} {H':Hp} {s':Shared},Inv Xc pl σ6 H' s'->Inv Xc pl (Ju Nc.length none++cW σ js) H' s':=fun{pl H' s'} Iz=>by
    refine Iz.weak (by rw[<-kl]) fun j v hj =>?_
    by_cases hn:j<Nc.length
    ·rw[Uj (by simpa using hn),Yc] at hj
     split at hj<;>cases hj
    ·rw[kσ j (by omega)];exact hj
   cases b with
   | false=>
    rw[if_neg Jl] at q7 ⊢
    refine ai.el (q7) _ ?_
    rintro m' Ab w7
    obtain⟨l1,l2⟩:=later I7
    exact⟨m',Ab,i+1,ys,H7,au,k,back I7.eC,rv,hz,l1,l2,w7⟩
   | true=>
    rw[if_pos rfl] at q7 ⊢
    refine bg (HU cl G.objs.size s2 H2 fp s7 σ6 H7 _ I7 q7) fun yv s8 hz_ =>?_
    refine ai.el hz_ _ ?_
    clear hz_
    rintro y H8 I8 r8 q8
    refine ai.el (q8) _ ?_
    rintro m' Ab w8
    obtain⟨hDo,Hd,hDne,hDfs,_⟩:=I8.pin (D,_) (Jw _ (Yq _ Jr))
    obtain⟨l1,l2⟩:=later I8
    have hits:au.size=ys.length:=by
     have e1:=rv.length
     simp -iota only [Uo] at e1
     omega
    refine wpAny_list_append_plain (hsz:=by omega) ⟨k,hDo⟩ fun h9 Qw hs9 =>?_
    obtain⟨k9,hD9⟩:=Qw
    have UT:∀p∈fw fp s5.heap,p.1≠D:=fun p hp=>by
     obtain⟨hb,_⟩:=qT hp
     exact bR (pL _ hb) (Je _)
    have WD:Inv Xc (fw fp s5.heap) σ6 H8 s8:=I8.mI fun p hp=>I8.pin p (Jw _ (Jw _ hp))
    have I9:Inv Xc (fw fp s5.heap) σ6 H8 { s8 with heap:=h9,toks:=s8.toks }:=WD.turned (it:=D) (fun b o hb e=>hs9.extBut b o hb e) Hd MA (.inr (Je _))
     (fun x a e z=>by
      obtain⟨v,q⟩:=I2.cell x a (dn _ _ e)
      exact bR q.lt (Je _) z) (fun p hp=>UT p (by
       have hp:p∈([]:List (Addr×Obj))++fw fp s5.heap:=hp
       simpa using hp))
    obtain⟨kW,fr9⟩:tn (i+1) h9/\∀b∈fp,H8 b=none:=by
     refine⟨T.keep _ _ _ l1 fun b hb o e=>hs9.extBut b o ?_ e,l2⟩
     exact bR (pL _ hb) (Je _)
    refine⟨m',Ab,i+1,ys++[y],H8,au.push yv,k9,back (I9.mI fun p hp =>?_),?_,?_,kW,fr9,w8⟩
    ·cases Jz.mp hp
     exact⟨hD9,Hd,hDne,hDfs,fun _ z=>nomatch z⟩
    ·rw[Array.toList_push]
     exact rv.append (.cons r8 .nil)
    ·rw[Jp,List.length_singleton];omega
 exact codeAny_compStart_list (loop _) (T.self _ 0 _ _ _ (T.keep _ _ _ eK fun b hb o e=>old b o e) (loop _))
theorem dG {X:Cx}{elt tg iter:Expr}{ifs:List Expr}{scope:Scope}{pos:Pos}{Nc Fc:List Str}{js:List Nat}{wi:TI}{g:TG}{tc:TT}{te:TE}
  (eS:X.calm=true) (c:fk X scope Nc Fc js) (hi:PI X tg iter wi) (gk:Gk Nc.length g)
  (hg:∀cl C s H fp,PG (j0 X Nc Fc scope cl C s H fp) tg g) (AL:∀cl C s H fp,HS (j0 X Nc Fc scope cl C s H fp) ifs tc) (HU:∀cl C s H fp,PE (j0 X Nc Fc scope cl C s H fp) elt te)
  (hs:∀x,foldedSetIterable iter X.env x=pure x:=by intro _;rfl) :
  PE X (.ListComp elt [⟨tg,iter,ifs,0⟩] scope pos) (Ij wi Nc.length js g tc te):=by
 intro pins s σ H Q I h
 rw[eval_ListComp]
 refine p8 (use:=none) eS c hi hg AL HU gk I h (fun C D m ys H2 s2 I2 hm hC hD q =>?_) hs
 refine⟨m,hm,fun h' hs' =>?_⟩
 refine⟨.ref D,_,I2.turned (it:=C) (t':=s2.toks) (fun b o hb e=>hs'.extBut b o hb e) hC.1 (hC.2.1) hC.2.2.2.1 hC.2.2.2.2.1 hC.2.2.2.2.2,rfl,q D hD⟩
theorem gE {X:Cx}{i:Nat}{y:Str}{elt tg iter:Expr}{ifs:List Expr}{scope:Scope}{pos pos' py:Pos}{Nc Fc:List Str}{js:List Nat}{wi:TI}{g:TG}{tc:TT}{te:TE}(hN:X.N.Nodup)(hy:X.N[i]? = some y)(hl:Loc X.env.scope y)
  (eS:X.calm=true) (c:fk X scope Nc Fc js) (hi:PI X tg iter wi) (gk:Gk Nc.length g)
  (hg:∀cl C s H fp,PG (j0 X Nc Fc scope cl C s H fp) tg g) (AL:∀cl C s H fp,HS (j0 X Nc Fc scope cl C s H fp) ifs tc) (HU:∀cl C s H fp,PE (j0 X Nc Fc scope cl C s H fp) elt te)
  (SN:swapsWith (.ListComp elt [⟨tg,iter,ifs,0⟩] scope pos) (some (.Name y py)) pos'.line X.env=pure true:=by rfl)
  (hs:∀x,foldedSetIterable iter X.env x=pure x:=by intro _;rfl)
  (hf:X.fn y=true∨X.env.scope.names.lookup y=some .local:=by first|exact .inl rfl|exact .inr rfl|assumption) :
  PS X (.Assign [.Name y py] (.ListComp elt [⟨tg,iter,ifs,0⟩] scope pos) pos') (Dh (Ij wi Nc.length js g tc te) (md i)):=by
 intro pins s σ H E I h
 rw[exec_Assign_Name_used _ _ _ _ SN]
 refine wpAny_bind (wpAny_standAt (wpAny_bind ?_))
 show wpAny _ X.A (do let _ <-comprehension (.ListComp elt [⟨tg,iter,ifs,0⟩] scope pos) scope X.env _ (newList []) false (eval iter X.env) (some (assign (.Name y py) X.env))) _ _ s
 refine wpAny_bind (bg (p8 (use:=some (assign (.Name y py) X.env)) (QV:=fun _ s'=>SP X pins E .next s') eS c hi hg AL HU gk I h (fun C D m ys H2 s2 I2 hm hC hD q =>?_) hs) fun _ s' hq=>wpAny_pure (wpAny_pure hq))
 show wpAny _ _ (assign (.Name y py) X.env (.ref D)) _ _ s2
 refine wpAny_assign_Name (lH I2 hN hy hl (v := .ref D) rfl (fun s3 I3 ⟨a,hsa,ha⟩=>?_) hf)
 have E8:C≠a:=by
  rcases ha with e|e
  ·rw[e];exact hC.2.1
  ·exact fun z=>hC.2.2.2.2.1 _ _ e z.symm
 refine⟨m,hm.at' fun o e=>hsa.extBut _ o E8 e,fun h' hs' =>?_⟩
 exact⟨_,_,I3.turned (it:=C) (t':=s3.toks) (fun b o hb e=>hs'.extBut b o hb e) hC.1 hC.2.1 hC.2.2.2.1 hC.2.2.2.2.1 hC.2.2.2.2.2,q D hD⟩
section
variable {X:Cx}{pins:List (Addr×Obj)}{σ:St}{H:Hp}{s:Shared}{p:Addr}{ys:List V}
theorem qc {A:Around}(hh:A.handled=none)(I:Inv X pins σ H s)(hq:bb X.K H p ys){R:Value->Shared->Prop}{E:Value->Shared->Prop}
  (h:∀(au:List Value) (it:Addr) (s2:Shared),Vals ys au->au.length<=sizeLine ->
   Walks X.prog X.w A it [it,p] [it] au.toArray.size (fun i v=>au.toArray[i]? = some v) (fun i h=>h.IsListIter it p i/\h.IsList p au.toArray)->(s2.heap.IsListIter it p 0/\s2.heap.IsList p au.toArray)->(∀b∈[it,p],b<s2.heap.objs.size) ->
   (∀h' tk,(∀b o,b∉[it]->s2.heap.get? b=some o->h'.get? b=some o)->Inv X pins σ H { s2 with heap:=h',toks:=tk })->R (.ref it) s2) :
  wpAny (model X.prog X.w) A (pyIter (.ref p)) R E s:=by
 obtain⟨au,rv,pl,hz⟩:=I.list hq
 have hl:=pl.isList
 have hp:p<s.heap.objs.size:=by obtain⟨o,e,_⟩:=hl;exact Jf e
 refine wpAny_pyIter_list hl ?_
 refine h au s.heap.objs.size _ rv (by have:=rv.length;omega) (Walks.list hh _ p (Jm hp) au.toArray) ⟨⟨_,Jk _ rfl,rfl,rfl⟩,hl.push _⟩ (fun b hb =>?_) fun h' tk hk =>?_
 ·show b<(s.heap.push _).objs.size
  rw[J8]
  rcases Jv.mp hb with rfl|hb
  ·exact Nat.lt_succ_self _
  ·rw[Jz.mp hb];exact Nat.lt_succ_of_lt hp
 ·exact I.kept (t':=tk) fun b o e=>hk b o (fun z=>bR (Jf e) (Je _) (Jz.mp z)) (Jb _ e)
theorem ke {ys:List V}{au:List Value}(r:Vals ys au){i:Nat}{v:Value}(e:au.toArray[i]? = some v):∃y,ys[i]? = some y/\RelV y v:=by
 have e':au[i]? = some v:=by simpa using e
 have hi:i<au.length:=(Jt.mp e').1
 have hl:=r.length
 obtain⟨u,h1,h2⟩:=r.get (i:=i) (x:=ys[i]'(by omega)) (by simp)
 rw[e'] at h1;cases h1
 exact⟨_,by simp,h2⟩
theorem Ap (bs:List Bool):(Uy bs.length).all (fun i=>bs.getD i false)=bs.all id:=by
 induction bs with
 | nil=>rfl
 | cons b r ih=>
  rw[Jn,List.range_succ_eq_map,List.all_cons,List.all_map,List.all_cons,<-ih]
  rfl
theorem An (bs:List Bool):(Uy bs.length).any (fun i=>bs.getD i false)=bs.any id:=by
 induction bs with
 | nil=>rfl
 | cons b r ih=>
  rw[Jn,List.range_succ_eq_map,Yd,List.any_map,Yd,<-ih]
  rfl
theorem uv {A:Around}{bs:List Bool}{au:List Value}(r:Vals (bs.map V.bl) au):TruthOf X.prog X.w A (fun i v=>au.toArray[i]? = some v) (fun i=>bs.getD i false):=by
 intro i v s Q E e hQ
 obtain⟨y,h1,h2⟩:=ke r e
 rw[Ji] at h1
 cases q:bs[i]? with
 | none=>rw[q] at h1;cases h1
 | some b=>
  rw[q] at h1;cases h1
  cases h2
  have:bs.getD i false=b:=by simp[List.getD,q]
  have hQ:Q (bs.getD i false) s:=hQ
  rw[this] at hQ
  exact wpAny_pure hQ
theorem vV (hc:X.calm=true):bE X (.builtin "all") (fun xs H Q=>∃(p:Addr) (bs:List Bool),xs=[.ref p]/\bb X.K H p (bs.map V.bl)/\Q (.bl (bs.all id)) H):=by
 intro pins s σ H xs us Q I r h
 obtain⟨p,bs,rfl,hq,q⟩:=h
 obtain⟨u,rfl,ru⟩:=vals1 r
 cases ru
 refine call_all_walk (qc (A:=X.A.in1) (I.ok.hd hc) I hq fun au it s2 rv hz W st hW hI =>?_)
 refine⟨it,_,_,_,_,_,fun i=>bs.getD i false,rfl,W,st,uv rv,fun h' tk hk =>?_⟩
 have hl:au.toArray.size=bs.length:=by have:=rv.length;simp at this ⊢;omega
 rw[hl,Ap]
 exact⟨.bl _,H,hI h' tk hk,rfl,q⟩
theorem uM (hc:X.calm=true):bE X (.builtin "any") (fun xs H Q=>∃(p:Addr) (bs:List Bool),xs=[.ref p]/\bb X.K H p (bs.map V.bl)/\Q (.bl (bs.any id)) H):=by
 intro pins s σ H xs us Q I r h
 obtain⟨p,bs,rfl,hq,q⟩:=h
 obtain⟨u,rfl,ru⟩:=vals1 r
 cases ru
 refine call_any_walk (qc (A:=X.A.in1) (I.ok.hd hc) I hq fun au it s2 rv hz W st hW hI =>?_)
 refine⟨it,_,_,_,_,_,fun i=>bs.getD i false,rfl,W,st,uv rv,fun h' tk hk =>?_⟩
 have hl:au.toArray.size=bs.length:=by have:=rv.length;simp at this ⊢;omega
 rw[hl,An]
 exact⟨.bl _,H,hI h' tk hk,rfl,q⟩
theorem JI (K:Ja)(hc:X.calm=true)(hK:X.K=K:=by rfl):bE X (.builtin "all") (fun xs H Q=>∃(p:Addr) (bs:List Bool),xs=[.ref p]/\bb K H p (bs.map V.bl)/\Q (.bl (bs.all id)) H):=by subst hK;exact vV hc
theorem QX (K:Ja)(hc:X.calm=true)(hK:X.K=K:=by rfl):bE X (.builtin "any") (fun xs H Q=>∃(p:Addr) (bs:List Bool),xs=[.ref p]/\bb K H p (bs.map V.bl)/\Q (.bl (bs.any id)) H):=by subst hK;exact uM hc
theorem jk:Fg X "str.startswith" (fun x vs H Q=>∃a b,x = .str a/\vs=[.str b]/\Q (.bl (Txt.startswith a b)) H):=by
 intro pins s σ H x vs v us Q I rx rv h
 obtain⟨a,b,rfl,rfl,q⟩:=h
 obtain⟨t,rfl⟩:=rx
 obtain⟨u,rfl,t',rfl⟩:=rv.one
 exact SC.startswith ⟨.bl _,H,I,rfl,q⟩
theorem BI:Fg X "str.strip" (fun x vs H Q=>∃a b,x = .str a/\vs=[.str b]/\a.length<=sizeLine/\Q (.str (Txt.stripChars a b)) H):=by
 intro pins s σ H x vs v us Q I rx rv h
 obtain⟨a,b,rfl,rfl,hz,q⟩:=h
 obtain⟨t,rfl⟩:=rx
 obtain⟨u,rfl,t',rfl⟩:=rv.one
 exact SC.stripChars (fun t' k=>⟨.str _,H,I.tok _,⟨_,rfl⟩,q⟩) hz
theorem CK:∀{xs:List Str} {au:List Value},Vals (xs.map V.str) au->StrsAre au xs:=by
 intro xs au r
 induction xs generalizing au with
 | nil=>cases r;exact StrsAre.nil
 | cons x xs ih=>
  cases r with
  | cons r1 r2=>
   obtain⟨t,rfl⟩:=r1
   exact StrsAre.cons x t (ih r2)
theorem Gh:Fg X "str.join" (fun x vs H Q=>∃(sep:Str) (p:Addr) (xs:List Str),x = .str sep/\vs=[.ref p]/\bb X.K H p (xs.map V.str)/\(xs.map (·.length)).sum+xs.length*sep.length<=16777216/\Q (.str (Txt.join sep xs)) H):=by
 intro pins s σ H x vs v us Q I rx rv h
 obtain⟨sep,p,xs,rfl,rfl,hq,hz,q⟩:=h
 obtain⟨t,rfl⟩:=rx
 obtain⟨u,rfl,ru⟩:=rv.one
 cases ru
 obtain⟨au,r',pl,_⟩:=I.list hq
 exact join_list pl.isList (CK r') hz fun t' k=>⟨.str _,H,I.tok _,⟨_,rfl⟩,q⟩
end
mutual
def Den (K:Ja)(H:Hp):PyData->V->Prop
 | .none,v=>v = .non
 | .bool b,v=>v = .bl b
 | .int i,v=>v = .int i
 | .str x,v=>v = .str x
 | .list ds,v=>dS fun a vs=>v = .ref a/\bb K H a vs/\aN K H ds vs
 | .tuple ds,v=>dS fun a vs=>v = .ref a/\br K H a vs/\aN K H ds vs
 | .dict _,_=>False
def aN (K:Ja)(H:Hp):List PyData->List V->Prop
 | [],vs=>vs=[]
 | d::ds,vs=>dS fun v r=>vs=v::r/\Den K H d v/\aN K H ds r
end
theorem ao.bU {K:Ja}{H H':Hp}{a:Addr}{xs:List V}(e:ao H H')(h:br K H a xs):br K H' a xs:=by
 rcases h with (h|⟨o,h⟩)|h
 ·exact .inl (.inl (e _ _ h))
 ·exact .inl (.inr ⟨o,e _ _ h⟩)
 ·exact .inr h
mutual
theorem Den.same {K:Ja}{H H':Hp}(e:ao H H'):∀{d:PyData} {v:V},Den K H d v->Den K H' d v
 | .none,_,h=>by unfold Den at h ⊢;exact h
 | .bool _,_,h=>by unfold Den at h ⊢;exact h
 | .int _,_,h=>by unfold Den at h ⊢;exact h
 | .str _,_,h=>by unfold Den at h ⊢;exact h
 | .list ds,_,h=>by
  unfold Den at h ⊢
  obtain⟨a,vs,h1,h2,h3⟩:=h
  exact⟨a,vs,h1,e.seq h2,aN.same e h3⟩
 | .tuple ds,_,h=>by
  unfold Den at h ⊢
  obtain⟨a,vs,h1,h2,h3⟩:=h
  exact⟨a,vs,h1,e.bU h2,aN.same e h3⟩
 | .dict _,_,h=>by unfold Den at h;exact h.elim
theorem aN.same {K:Ja}{H H':Hp}(e:ao H H'):∀{ds:List PyData} {vs:List V},aN K H ds vs->aN K H' ds vs
 | [],_,h=>by unfold aN at h ⊢;exact h
 | d::ds,_,h=>by
  unfold aN at h ⊢
  obtain⟨v,r,h1,h2,h3⟩:=h
  exact⟨v,r,h1,Den.same e h2,aN.same e h3⟩
end
mutual
theorem Den.reads {X:Cx}{pins:List (Addr×Obj)}{σ:St}{H:Hp}{s:Shared}(I:Inv X pins σ H s):∀{d:PyData} {v:V} {u:Value},Den X.K H d v->RelV v u->∃as,Reads s.heap u d as
 | .none,_,_,h,r=>by unfold Den at h;subst h;cases r;exact⟨_,.none⟩
 | .bool _,_,_,h,r=>by unfold Den at h;subst h;cases r;exact⟨_,.bool _⟩
 | .int _,_,_,h,r=>by unfold Den at h;subst h;obtain⟨t,rfl⟩:=r;exact⟨_,.int _ _⟩
 | .str _,_,_,h,r=>by unfold Den at h;subst h;obtain⟨t,rfl⟩:=r;exact⟨_,.str _ _⟩
 | .list ds,_,_,h,r=>by
  unfold Den at h
  obtain⟨a,vs,rfl,h2,h3⟩:=h
  cases r
  obtain⟨au,rv,⟨o,n,e1,e2,_,e4⟩,_⟩:=I.list h2
  obtain⟨as,q⟩:=aN.reads I h3 rv
  exact⟨_,.list e1 e2 e4 (by simpa using q)⟩
 | .tuple ds,_,_,h,r=>by
  unfold Den at h
  obtain⟨a,vs,rfl,h2,h3⟩:=h
  cases r
  obtain⟨au,rv,⟨o,e1,e2,n,e4⟩,_⟩:=I.tuple h2
  obtain⟨as,q⟩:=aN.reads I h3 rv
  exact⟨_,.tuple e1 e2 e4 (by simpa using q)⟩
 | .dict _,_,_,h,_=>by unfold Den at h;exact h.elim
theorem aN.reads {X:Cx}{pins:List (Addr×Obj)}{σ:St}{H:Hp}{s:Shared}(I:Inv X pins σ H s):∀{ds:List PyData} {vs:List V} {us:List Value},aN X.K H ds vs->Vals vs us->∃as,ReadsAll s.heap us ds as
 | [],_,_,h,r=>by unfold aN at h;subst h;cases r;exact⟨_,.nil⟩
 | d::ds,_,_,h,r=>by
  unfold aN at h
  obtain⟨v,q,rfl,h2,h3⟩:=h
  cases r with
  | cons r1 r2=>
   obtain⟨as,q1⟩:=Den.reads I h2 r1
   obtain⟨bs,q2⟩:=aN.reads I h3 r2
   exact⟨_,.cons q1 q2⟩
end
section
variable {X:Cx}
open PySem.SeqAt in
theorem JX (hu:X.A.units+64<cLine):dR X (compareOp .Eq) (fun x y H Q=>∃d e,Den X.K H d x/\Den X.K H e y/\shaped d=true/\shaped e=true/\Q (.bl (PyData.eqv d e)) H):=by
 intro pins s σ H x y v u Q I rx ry h
 obtain⟨d,e,hd,he,sd,se,q⟩:=h
 obtain⟨as,r1⟩:=hd.reads I rx
 obtain⟨bs,r2⟩:=he.reads I ry
 exact eq_dataH r1 r2 sd se hu ⟨.bl _,H,I,rfl,q⟩
open PySem.SeqAt in
theorem K9 (hu:X.A.units+64<cLine):dR X (compareOp .NotEq) (fun x y H Q=>∃d e,Den X.K H d x/\Den X.K H e y/\shaped d=true/\shaped e=true/\Q (.bl (!PyData.eqv d e)) H):=by
 intro pins s σ H x y v u Q I rx ry h
 obtain⟨d,e,hd,he,sd,se,q⟩:=h
 obtain⟨as,r1⟩:=hd.reads I rx
 obtain⟨bs,r2⟩:=he.reads I ry
 exact ne_dataH r1 r2 sd se hu ⟨.bl _,H,I,rfl,q⟩
theorem LF:dR X (compareOp .Is) (fun x y H Q=>∃a b,x = .bl a/\y = .bl b/\Q (.bl (decide (a=b))) H):=by
 intro pins s σ H x y v u Q I rx ry h
 obtain⟨a,b,rfl,rfl,q⟩:=h
 cases rx;cases ry
 refine wpAny_is_plain rfl (bj I q ?_)
 cases a<;>cases b<;>rfl
theorem BQ:dR X (compareOp .IsNot) (fun x y H Q=>∃a b,x = .bl a/\y = .bl b/\Q (.bl (!decide (a=b))) H):=by
 intro pins s σ H x y v u Q I rx ry h
 obtain⟨a,b,rfl,rfl,q⟩:=h
 cases rx;cases ry
 refine wpAny_isNot_plain rfl (bj I q ?_)
 cases a<;>cases b<;>rfl
theorem D9:bE X (.builtin "isinstance") (fun xs H Q=>∃x T t b,xs=[x,.ty T]/\kS X.K H x t/\Yi X.K t (.type T)=some b/\Q (.bl b) H):=by
 intro pins s σ H xs us Q I r h
 obtain⟨x,T,t,b,rfl,ty,e,q⟩:=h
 obtain⟨u,w',rfl,r1,r2⟩:=vals2 r
 cases r2
 exact AZ I r1 ty e fun tk=>⟨.bl b,H,I.tok _,rfl,q⟩
theorem Lk:Cn X (fun x lo hi H Q=>∃z,x = .str z/\z.length<=sizeLine/\Q (.str (Txt.slice z lo hi)) H):=by
 intro pins s σ H x v vl vu lo hi sl Q I rx hs pl pu q
 obtain⟨z,rfl,hz,q⟩:=q
 obtain⟨t,rfl⟩:=rx
 refine⟨"str",_,F.slot_str_getitem.lookup,typeIs_str _ _ _,?_⟩
 have fin:∀t' k,EP X pins σ Q (.str (Txt.slice z lo hi) t') { s with toks:=k }:=fun t' k=>⟨.str _,H,I.tok _,⟨_,rfl⟩,q⟩
 cases pl with
 | none=>
  cases pu with
  | none=>exact wpAny_getItem_str_slice (l:=none) (u:=none) (st:=none) hs rfl (post_val_or_str ⟨Jh (Txt.slice_le z _ _) hz,fin⟩)
  | int j uj=>exact wpAny_getItem_str_slice (l:=none) (u:=some (j,uj)) (st:=none) hs rfl (post_val_or_str ⟨Jh (Txt.slice_le z _ _) hz,fin⟩)
 | int i ui=>
  cases pu with
  | none=>exact wpAny_getItem_str_slice (l:=some (i,ui)) (u:=none) (st:=none) hs rfl (post_val_or_str ⟨Jh (Txt.slice_le z _ _) hz,fin⟩)
  | int j uj=>exact wpAny_getItem_str_slice (l:=some (i,ui)) (u:=some (j,uj)) (st:=none) hs rfl (post_val_or_str ⟨Jh (Txt.slice_le z _ _) hz,fin⟩)
end
section
variable {X:Cx}{pins:List (Addr×Obj)}{σ:St}{H:Hp}{s:Shared}{h':Heap}
theorem Inv.iter {t':Nat}{ch:List Addr}(I:Inv X pins σ H s)(hf:∀b∈ch,dE X pins H b)(keep:∀b o,b∉ch->s.heap.get? b=some o->h'.get? b=some o):Inv X pins σ H { s with heap:=h',toks:=t' }:=by
 have Iw:∀b u,H b=some u->b∉ch:=fun b u e z=>by rw[(hf b z).1] at e;cases e
 refine I.step (g':=s.gens) (d':=s.drawn) (ch:=ch) (fun b hb=>⟨(hf b hb).2.2.2.1,(hf b hb).2.1,(hf b hb).2.2.2.2.1,(hf b hb).2.2.2.2.2⟩) (fun b o _ _ hc e _=>keep b o hc e) (fun b o _ _ hc e _=>⟨o.slots,keep b o hc e⟩)
  (fun _ _ _ _ n=>n) (fun b o hc e=>⟨o,keep b o hc e⟩) (fun _ _ e=>e) (fun _ _ _ e=>e) (fun b ps e=>⟨#[],by rw[e];simp⟩) (fun m hm=>hm.at' fun o e=>keep _ o (fun z=>(hf _ z).2.1 rfl) e) (fun b u e =>?_) I.bare
 refine(I.bC b u e).fZ (fun c v hc q=>keep c v ?_ q) (fun _ q=>q) fun _ _ q=>q
 rcases hc with z|z
 ·rw[z];exact Iw b u e
 ·exact Iw c _ z
theorem Inv.adopt {T:Addr}{o:HO}(I:Inv X pins σ H s)(hT:dE X pins H T)(hex:X.s₀.heap.objs.size<=T)(new:bz X.prog X.w (upd H T o) s.heap T o):Inv X pins σ (upd H T o) s:=
 ⟨I.ok,I.os,I.bare,⟨I.base.keep,I.base.slot,fun b ob e n hx=>by rw[ak (bR (Jf e) hex)];exact I.base.free b ob e n hx,I.base.there,
   fun b xs e=>by rw[ak (aw (I.base.jw b xs e) hT.1)];exact I.base.jw b xs e,fun b ob xs e=>by rw[ak (aw (I.base.jh b ob xs e) hT.1)];exact I.base.jh b ob xs e,
   fun b ps e=>by
    obtain⟨m,q⟩:=I.base.j3 b ps e
    exact⟨m,by rw[ak (aw q hT.1)];exact q⟩⟩,
  I.loc,I.cell,by rw[ak (Ne.symm hT.2.1)];exact I.free,fun x c e=>by rw[ak (hT.2.2.2.2.1 x c e)];exact I.freeC x c e,
  fun p hp=>by
   refine ai.el (I.pin p hp) _ ?_
   rintro a b c d f
   exact⟨a,by rw[ak (hT.2.2.2.2.2 p hp)];exact b,c,d,f⟩,I.bC.adopt hT.1 new,I.len⟩
end
theorem nC {xs:List V}{au:List Value}{i:Nat}{x:V}(r:Vals xs au)(e:xs[i]? = some x):∃u,au.toArray[i]? = some u/\RelV x u:=by
 refine ai.el (r.get e) _ ?_
 rintro u h1 h2
 exact⟨u,by simpa using h1,h2⟩
noncomputable def Wy (K:Ja)(a:Addr):It:=
 ⟨fun i H=>dS fun xs x=>bb K H a xs/\xs[i]? = some x,
   fun i H v H'=>∃T,v = .ref T/\H T=none/\∀xs x,bb K H a xs->xs[i]? = some x->H'=upd H T (.tup [.int i,x]),
   fun i H=>∃xs,bb K H a xs/\xs.length<=i⟩
theorem Bk {P:Program}{w:World}{K:Ja}{elts:List Expr}{k:Nat}{tp:Pos}(e it l:Addr)(VP:e≠it)(hle:l≠e)(Z9:l≠it):
  Turn P w K (.Tuple elts k tp) (Wy K l) [e,it] e (fun i h=>(∃old,IsEnum h e it i old)/\h.IsListIter it l i) where
 mem:=by simp
 obj:=fun i h st b hb=>by
  obtain⟨⟨_,h1⟩,⟨o4,h4,_,d4⟩⟩:=st
  simp at hb
  rcases hb with rfl|rfl
  ·exact⟨_,h1,fun _ z=>nomatch z⟩
  ·exact⟨_,h4,fun v q=>by rw[d4] at q;cases q⟩
 keep:=fun i h h' st hk=>by
  obtain⟨⟨a,h1⟩,h4⟩:=st
  exact⟨⟨a,hk e (by simp) _ h1⟩,h4.at fun o e=>hk it (by simp) o e⟩
 item:=fun X hP hw hK hc i pins s σ H E I hf st go=>by
  subst hP hw hK
  obtain⟨⟨old,he⟩,h1⟩:=st
  obtain⟨xs,x,q1,e1⟩:=go
  obtain⟨its1,r1,p1,_⟩:=I.list q1
  obtain⟨u1,g1,ru1⟩:=nC r1 e1
  refine wpAny_pyNext_enum_item he h1 p1.isList g1 VP fun h' a1 a3 a5 a6 a7=>⟨_,rfl,?_⟩
  refine wpAny_letOwnedTupleGo_enum a1 fun h'' b1 b2 =>?_
  have SH:s.heap.objs.size≠e:=j4 (Jf he) (Je _)
  have kp:∀c o,c∉[e,it]->s.heap.get? c=some o->h''.get? c=some o:=fun c o hc z=>by
   simp only[Jv,Ue,or_false,not_or] at hc
   exact b2.extBut c o hc.1 (a7 c o hc.1 hc.2 z)
  have I1:Inv X pins σ H { s with heap:=h'',toks:=s.toks+1 }:=I.iter hf kp
  have fT:dE X pins H s.heap.objs.size:=I.eB (Je _) (I.bC.fresh (Je _))
  have oT:h''.get? s.heap.objs.size=some { cls := .type "tuple",data := .seq #[.int i s.toks,u1] }:=b2.extBut _ _ SH a5
  have I2:=I1.adopt (T:=s.heap.objs.size) (o := .tup [.int i,x]) fT I.sz ⟨by show 2<=sizeLine;decide,[.int i s.toks,u1],.cons ⟨_,rfl⟩ (.cons ru1 .nil),⟨_,oT,rfl,rfl,_,rfl⟩⟩
  refine⟨.ref s.heap.objs.size,_,I2,rfl,⟨_,rfl,fT.1,fun xs' x' q1' e1' =>?_⟩,⟨⟨_,by
   have b1:IsEnum h'' e it ((i:Int)+1) u1:=b1
   have z:(((i+1:Nat):Int))=(i:Int)+1:=by omega
   show IsEnum h'' e it ((i+1:Nat):Int) _
   rw[z];exact b1⟩,a3.extBut b2.extBut (Ne.symm VP)⟩,fun c hc =>?_⟩
  ·rw[I.og q1' q1] at e1'
   rw[e1] at e1';cases e1';rfl
  ·have Ck:c<s.heap.objs.size:=by
    simp at hc
    obtain⟨_,h1,_⟩:=h1
    rcases hc with rfl|rfl
    ·exact Jf he
    ·exact Jf h1
   rw[ak (bR Ck (Je _))]
   exact(hf c hc).1
 done:=fun X hP hw hK hc i pins s σ H E I hf st stop=>by
  subst hP hw hK
  obtain⟨⟨old,he⟩,h1⟩:=st
  obtain⟨xs,q1,e⟩:=stop
  obtain⟨its1,r1,p1,_⟩:=I.list q1
  have Xr:=r1.length
  refine wpAny_pyNext_enum_end (I.ok.hd hc) he h1 p1.isList (by simp;omega) fun h' kp=>⟨rfl,?_⟩
  refine I.iter (ch:=[it]) (t':=s.toks) (fun c hc=>hf c (by simp at hc ⊢;simp[hc])) fun c o hc z=>kp c o (fun q=>hc (by simp[q])) z
 self:=fun A i s Q E st hQ=>by
  obtain⟨⟨old,he⟩,_⟩:=st
  exact wpAny_pyIter_enum he hQ
section
variable {X:Cx}
def IC (K:Ja)(ta:TA):TI:=fun σ H R=>ta σ H fun vs H1=>∃a,vs=[.ref a]/\(∃xs,bb K H1 a xs)/\R (Wy K a) H1
theorem yE {elts:List Expr}{k:Nat}{tp:Pos}{a:Expr}{ta:TA}{p pos:Pos}(hg:Gl X "enumerate")(hm:X.mg "enumerate" = none)(ha:PA X [a] ta)(hb:bootBuiltins "enumerate" = some (.type "enumerate"):=by first|rfl|decide)(hs:starEach [a] X.env=[(false,eval a X.env)]:=by rfl):
  PI X (.Tuple elts k tp) (.Call (.Name "enumerate" p) [a] [] pos) (IC X.K ta):=by
 intro pins s σ H R I h
 refine Call_ (dY I hg hm hb (PyProof.Rows.callWith_type1 (bg (ha s σ H _ I h) fun us s1 hz_=>ai.el hz_ _ fun vs H1 I1 r1 q1 =>?_) hs rfl))
 obtain⟨l1,e,⟨xs,q1⟩,q⟩:=q1
 subst e
 obtain⟨u,rfl,ru⟩:=vals1 r1
 cases ru
 obtain⟨its1,rv1,p1,_⟩:=I1.list q1
 have a1:l1<s1.heap.objs.size:=by obtain⟨_,e,_⟩:=p1.isList;exact Jf e
 refine call_enumerate_list p1.isList (fun h' he hi1 hsz hk =>?_)
 refine wpAny_pyIter_enum he ?_
 have I2:Inv X pins σ H1 { s1 with heap:=h' }:=I1.kept (t':=s1.toks) hk
 refine⟨_,_,_,_,H1,rfl,I2,Bk _ _ _ (Nat.succ_ne_self _) (Jm (Nat.lt_succ_of_lt a1)) (Jm a1),⟨⟨_,he⟩,hi1⟩,fun c hc =>?_,q⟩
 have Ck:s1.heap.objs.size<=c:=by
  simp at hc
  rcases hc with rfl|rfl
  ·exact Ur _ _
  ·exact Je _
 exact I1.eB Ck (I1.bC.fresh Ck)
end
section
variable {X:Cx}
def N3:R2:=fun x y H Q=>(dS fun i j=>x = .int i/\y = .int j/\Q (.int (i+j)) H)∨(∃i j,x = .str i/\y = .str j/\i.length+j.length<=sizeLine/\Q (.str (i++j)) H)∨ND x y H Q
theorem M1:dR X (binaryOp .Add) N3:=Ky.or (xV.or LA)
def Od:R2:=fun x y H Q=>(dS fun i j=>x = .int i/\y = .int j/\ye i j/\Q (.int (i*j)) H)∨PK x y H Q
theorem MQ:dR X (binaryOp .Mult) Od:=JS.or Mf
structure Fn (P:Program)(w:World)(K:Ja)(mg:Str->Option Value)(base:Heap)(k:Nat)(x:Str)(ps:List Str)(sp:Sp):Prop where
 ex:∃f fd,bh P w K mg base eP k f fd ps sp/\Binds K fd ps []/\Uu K (.ref f)=true/\mg x=some (.ref f)
theorem Fn.mono {P:Program}{w:World}{K:Ja}{mg:Str->Option Value}{base:Heap}{j k:Nat}{x:Str}{ps:List Str}{sp:Sp}(F:Fn P w K mg base j x ps sp)(h:j<=k):Fn P w K mg base k x ps sp:=by
 refine ai.el (F.ex) _ ?_
 rintro f fd a b c d
 exact⟨f,fd,a.mono h,b,c,d⟩
theorem aB {k:Nat}{x:Str}{ps:List Str}{sp:Sp}{p pos:Pos}{e:Expr}{es:List Expr}{t:TA}(F:Fn X.prog X.w X.K X.mg X.base k x ps sp)(hr:cY k X.A)(hg:Gl X x)
  (ha:PA X (e::es) t) (sR:(x==("__debug__" : Str))=false:=by decide) (he:starEach (e::es) X.env=(false,eval e X.env)::starEach es X.env:=by rfl) (qy:(backTo pos (starEach es X.env)).any (·.1)=false:=by rfl) :
  PE X (.Call (.Name x p) (e::es) [] pos) (ur sp [] E0 t):=by
 refine ai.el (F.ex) _ ?_
 rintro f fd a b c d
 exact zr a hr hg d c b .nil Ii ha sR he qy
end
noncomputable def zb (pn sn:List (Str×NameKind))(N Fc:List Str)(js:List Nat):Bool:=
 sn.all (fun y=>y.2 != .cell)&&sn.all (fun y=>y.2 != .local||sn.lookup y.1==some .local)&&sn.all (fun y=>y.2 != .free||pn.lookup y.1==some .cell||pn.lookup y.1==some .free)&&js.length==Fc.length &&
 (Uy Fc.length).all fun k=>match Fc[k]?,js[k]? with
  | some x,some j=>sn.lookup x==some .free&&N[j]? == some x
  | _,_=>false
theorem cq {X:Cx}{scope:Scope}{Nc Fc:List Str}{js:List Nat}(hk:scope.kind = .function:=by rfl)(h:zb X.env.scope.names scope.names X.N Fc js=true:=by rfl):fk X scope Nc Fc js:=by
 unfold zb at h
 simp -iota only [Jx,Y2,Bool.or_eq_true,bne_iff_ne,beq_iff_eq,ne_eq] at h
 obtain⟨⟨⟨⟨h1,h2⟩,h3⟩,h4⟩,h5⟩:=h
 refine⟨hk,h1,fun y hy hl=>(h2 y hy).resolve_left (fun z=>z hl),fun y hy hf =>?_,fun k x hx =>?_,h4⟩
 ·rcases h3 y hy with (z|z)|z
  ·exact absurd hf z
  ·exact .inl z
  ·exact .inr z
 ·have Xo:k<Fc.length:=(Jt.mp hx).1
  have q:=h5 k (List.mem_range.mpr Xo)
  have hj:k<js.length:=by omega
  rw[hx,Jd hj] at q
  simp only[Jx,beq_iff_eq] at q
  exact⟨q.1,_,Jd hj,q.2⟩
section
variable {X:Cx}
theorem Vf (hu:X.A.units+64<cLine):dR X (compareOp .Eq) (fun x y H Q=>TZ x y H Q∨(∃d e,Den X.K H d x/\Den X.K H e y/\SeqAt.shaped d=true/\SeqAt.shaped e=true/\Q (.bl (PyData.eqv d e)) H)):=NL.or (JX hu)
theorem Ra (hu:X.A.units+64<cLine):dR X (compareOp .NotEq) (fun x y H Q=>Rb x y H Q∨(∃d e,Den X.K H d x/\Den X.K H e y/\SeqAt.shaped d=true/\SeqAt.shaped e=true/\Q (.bl (!PyData.eqv d e)) H)):=PL.or (K9 hu)
theorem JR:dR X (compareOp .Is) (fun x y H Q=>(y = .non/\Q (.bl (decide (x = .non))) H)∨(∃a b,x = .bl a/\y = .bl b/\Q (.bl (decide (a=b))) H)):=Ka.or LF
theorem si:dR X (compareOp .IsNot) (fun x y H Q=>(y = .non/\Q (.bl (!decide (x = .non))) H)∨(∃a b,x = .bl a/\y = .bl b/\Q (.bl (!decide (a=b))) H)):=HC.or BQ
theorem PN:Cn X (fun x lo hi H Q=>Li X.K x lo hi H Q∨(∃z,x = .str z/\z.length<=sizeLine/\Q (.str (Txt.slice z lo hi)) H)):=Gv.or Lk
structure Nm (mg:Str->Option Value):Prop where
 n_len:mg "len" = none
 n_range:mg "range" = none
 n_max:mg "max" = none
 n_min:mg "min" = none
 n_sum:mg "sum" = none
 n_all:mg "all" = none
 n_any:mg "any" = none
 n_list:mg "list" = none
 n_tuple:mg "tuple" = none
 n_int:mg "int" = none
 n_str:mg "str" = none
 n_bool:mg "bool" = none
 n_zip:mg "zip" = none
 n_enumerate:mg "enumerate" = none
 n_isinstance:mg "isinstance" = none
 n_divmod:mg "divmod" = none
end
theorem dh {J:It}{n:Nat}{js:List Nat}{g:TG}{tc:TT}{te:TE}{σ:St}{H1:Hp}{fin:List V->Hp->Prop}(N:Nat)(Pv:Nat->List V->Hp->Prop)(h0:Pv 0 [] H1)
  (go:∀i ys H (Nx:List V->Hp->Prop),i<N->Pv i ys H->(∀ys' H',Pv (i+1) ys' H'->Nx ys' H')->J.go i H/\ys.length<sizeLine /\
   ∀x H',J.yld i H x H'->g x (Ju n none++cW σ js) H' fun σ2 H2=>tc σ2 H2 fun b H3=>if b=true then te σ2 H3 fun y H4=>Nx (ys++[y]) H4 else Nx ys H3)
  (stop:∀ys H,Pv N ys H->J.stop N H/\fin ys H):zf J n js g tc te σ H1 fin:=by
 refine⟨fun i m ys H=>m=N-i/\i<=N/\Pv i ys H,⟨N,by simp,Um _,h0⟩,?_⟩
 intro i m ys H
 refine ai.go ?_
 rintro rfl hi p
 by_cases hW:i<N
 ·exact .inr (go i ys H (fun ys' H'=>∃m',m'<N-i/\(m'=N-(i+1)/\i+1<=N/\Pv (i+1) ys' H')) hW p fun ys' H' q=>⟨_,by omega,rfl,hW,q⟩)
 ·have e:i=N:=by omega
  subst e
  exact .inl (stop ys H p)
section
variable {X:Cx}(K:Ja)
theorem fI (hK:X.K=K:=by rfl):Fe X (Wk K):=by subst hK;exact IZ
theorem TM (hK:X.K=K:=by rfl):Cn X (fun x lo hi H Q=>Li K x lo hi H Q∨(∃z,x = .str z/\z.length<=sizeLine/\Q (.str (Txt.slice z lo hi)) H)):=by subst hK;exact PN
theorem ia (hK:X.K=K:=by rfl):bE X (.builtin "len") (fun xs H Q=>∃x n,xs=[x]/\Po K x H n/\Q (.int n) H):=by subst hK;exact CL
theorem yP (hK:X.K=K:=by rfl):Fg X "str.join" (fun x vs H Q=>∃(sep:Str) (p:Addr) (xs:List Str),x = .str sep/\vs=[.ref p]/\bb K H p (xs.map V.str)/\(xs.map (·.length)).sum+xs.length*sep.length<=16777216/\Q (.str (Txt.join sep xs)) H):=by subst hK;exact Gh
theorem G7 {tg l:Expr}{tl:TE}(hl:PE X l tl)(hK:X.K=K:=by rfl):PI X tg l (Iq K tl):=by subst hK;exact FJ hl
theorem tupK {pos:Pos}{es:List Expr}{k:Nat}{t:Bs}(n:Nat)(hc:X.calm=true)(h:Ou X es t)(hn:(assignEach es X.env).length=n:=by rfl)(l9:(assignEach es X.env).findIdx? (·.1)=none:=by rfl)(hK:X.K=K:=by rfl):PG X (.Tuple es k pos) (Ko K n t):=by subst hK;exact LR hc h hn l9
theorem uy {o e:Expr}{es:List Expr}{to:TE}{t:TA}{name:Str}{apos dB:Pos}{T id:String}{r:V->List V->Hp->VK->Prop}(pa:PlainAttrs T)(slot:Slot T name id)(JD:typeOf (.builtin id)=pure (.type "method_descriptor"))(hm:Fg X id r)(ho:PE X o to)(ha:PA X (e::es) t)
  (kP:attributeBase o name X.env (eval o X.env)=eval o X.env:=by rfl)
  (Bu:((backTo dB (starEach (e::es) X.env)).all (fun x => !x.1)&&(backToKw dB (keywordEach [] X.env)).all (fun x=>x.1.isSome)
   && decide ((e::es).length+([]:List Keyword).length+(if ([]:List Keyword).isEmpty then 0 else 1)<30))=true:=by rfl)
  (j2:(apos.endLine==dB.line)=true:=by rfl) (hs:starEach (e::es) X.env=(false,eval e X.env)::starEach es X.env:=by rfl) (wx:(backTo dB (starEach es X.env)).any (·.1)=false:=by rfl) (hK:X.K=K:=by rfl) :
  PE X (.Call (.Attribute o name apos) (e::es) [] dB) (VR K T r to t):=by subst hK;exact NP pa slot JD hm ho ha kP Bu j2 hs wx
theorem OV {o:Expr}{to:TE}{name:Str}{apos dB:Pos}{T id:String}{r:V->List V->Hp->VK->Prop}(pa:PlainAttrs T)(slot:Slot T name id)(JD:typeOf (.builtin id)=pure (.type "method_descriptor"))(hm:Fg X id r)(ho:PE X o to)
  (kP:attributeBase o name X.env (eval o X.env)=eval o X.env:=by rfl) (j2:(apos.endLine==dB.line)=true:=by rfl) (hK:X.K=K:=by rfl):PE X (.Call (.Attribute o name apos) [] [] dB) (MW K T r to):=by subst hK;exact L0 pa slot JD hm ho kP j2
theorem qj (hu:X.A.units+64<cLine)(hK:X.K=K:=by rfl):dR X (compareOp .Eq) (fun x y H Q=>TZ x y H Q∨(∃d e,Den K H d x/\Den K H e y/\SeqAt.shaped d=true/\SeqAt.shaped e=true/\Q (.bl (PyData.eqv d e)) H)):=by subst hK;exact Vf hu
theorem JV (hu:X.A.units+64<cLine)(hK:X.K=K:=by rfl):dR X (compareOp .NotEq) (fun x y H Q=>Rb x y H Q∨(∃d e,Den K H d x/\Den K H e y/\SeqAt.shaped d=true/\SeqAt.shaped e=true/\Q (.bl (!PyData.eqv d e)) H)):=by subst hK;exact Ra hu
end
abbrev Keeps (g h:Heap)(c:Addr->Prop):Prop:=∀b o,¬c b->g.get? b=some o->h.get? b=some o
structure vT (prog:Program)(w:World)(A:Around)(it S:Addr)(T:String)(fp:Addr->Prop)(n:Nat)(P:Nat->Value->Heap->Prop)(R:Value->Value->Prop)(St:Nat->Heap->Prop):Prop where
 sfp:¬fp S
 ne:it≠S
 ty:∀i h,St i h->∃o,h.get? it=some o/\o.cls = .type T
 self:∀(s:Shared) (Q:Value->Shared->Prop) (E:Value->Shared->Prop),St 0 s.heap->Q (.ref it) s->wpAny (model prog w) A (pyIter (.ref it)) Q E s
 item:∀i (s:Shared) (Q:Option Value->Shared->Prop) (E:Value->Shared->Prop),i<n->St i s.heap->S<s.heap.objs.size ->
  (∀v h' tk,Keeps s.heap h' fp->St (i+1) h'->P i v h'->(∀j u,P j u s.heap->R u v)->Q (some v) { s with heap:=h',toks:=tk })->wpAny (model prog w) A (pyNext (.ref it)) Q E s
 stop:∀(s:Shared) (Q:Option Value->Shared->Prop) (E:Value->Shared->Prop),St n s.heap->S<s.heap.objs.size->(∀h' tk,Keeps s.heap h' fp->Q none { s with heap:=h',toks:=tk })->wpAny (model prog w) A (pyNext (.ref it)) Q E s
 keepS:∀i h h',St i h->Keeps h h' (· = S)->St i h'
 keepP:∀j v h h',P j v h->Keeps h h' (fun b=>fp b∨b=S)->P j v h'
 nolen:typeLookup (.type T) "__len__" = pure none
 nohint:typeLookup (.type T) "__length_hint__" = pure none
 nl:(Value.type T==Value.type "list")=false
 nt:(Value.type T==Value.type "tuple")=false
structure nR (h:Heap)(S:Addr)(i:Nat)(P:Nat->Value->Heap->Prop)(R:Value->Value->Prop)(acc:Array Value)(c:Nat):Prop where
 ob:h.get? S=some { cls := .type "list",data := .seq acc c }
 sz:acc.size=i
 pw:acc.toList.Pairwise R
 all:∀(j:Nat) v,acc[j]? = some v->P j v h
abbrev tM (prog:Program)(w:World)(A:Around)(R:Result->Shared->Prop):Fin->Shared->Prop:=fun fin s'=>match fin with
 | .done f=>R (.ok f) s'
 | .again c'=>c'.quiet=true/\codeAny (model prog w) A c' R s'
section
variable {prog:Program}{w:World}{A:Around}{it S:Addr}{T:String}{fp:Addr->Prop}{n:Nat}{P:Nat->Value->Heap->Prop}{R:Value->Value->Prop}{St:Nat->Heap->Prop}
abbrev mG (g:Heap)(S:Addr)(fp:Addr->Prop)(n:Nat)(P:Nat->Value->Heap->Prop)(R:Value->Value->Prop)(s:Shared)(Z:Shared->Prop):Prop:=
 ∀h' tk acc c,Keeps g h' (fun b=>fp b∨b=S)->nR h' S n P R acc c->Z { s with heap:=h',toks:=tk }
theorem qA (Fd:vT prog w A.in1 it S T fp n P R St)(hn:n<=sizeLine){s:Shared}{Z:Result->Shared->Prop}{res:Value}{g:Heap}(fin:mG g S fp n P R s (Z (.ok (.ret res)))):
  ∀(k i:Nat) (h:Heap) (tk:Nat) (acc:Array Value) (c:Nat),i+k=n->St i h->nR h S i P R acc c->Keeps g h (fun b=>fp b∨b=S) ->
   codeAny (model prog w) A (.builtin "list.extend.loop" ⟨[.ref S,.ref it,res],[]⟩) Z { s with heap:=h,toks:=tk }
 | 0,i,h,tk,acc,c,hk,l9,G,kp=>by
  have e:i=n:=by omega
  subst e
  refine codeAny_builtin PySem.F.entry_extend_loop ?_
  rw[Around.under_plainId PySem.F.plain_extend_loop _]
  refine wpAny_bind (Fd.stop { s with heap:=h,toks:=tk } _ _ l9 (Jf G.ob) fun h' tk' k'=>wpAny_pure ?_)
  exact fin h' tk' acc c (fun b o nb q=>k' b o (fun z=>nb (.inl z)) (kp b o nb q)) ⟨k' _ _ Fd.sfp G.ob,G.sz,G.pw,fun j v e=>Fd.keepP _ _ _ _ (G.all j v e) fun b o nb q=>k' b o (fun z=>nb (.inl z)) q⟩
 | k+1,i,h,tk,acc,c,hk,l9,G,kp=>by
  refine codeAny_builtin PySem.F.entry_extend_loop ?_
  rw[Around.under_plainId PySem.F.plain_extend_loop _]
  refine wpAny_bind (Fd.item i { s with heap:=h,toks:=tk } _ _ (by omega) l9 (Jf G.ob) fun v h' tk' k' st' pv rv =>?_)
  have N2:=k' _ _ Fd.sfp G.ob
  have other:Keeps h' (h'.update S (Obj.mapSeq (·.push v))) (· = S):=fun b o nb q=>(J5 _ _ (Ne.symm nb)).trans q
  have k2:Keeps h (h'.update S (Obj.mapSeq (·.push v))) (fun b=>fp b∨b=S):=fun b o nb q=>other b o (fun z=>nb (.inr z)) (k' b o (fun z=>nb (.inl z)) q)
  have sz:=G.sz
  refine wpAny_bind (wpAny_updateSeq N2 rfl (wpAny_pure ⟨plainId_quiet PySem.F.plain_extend_loop _,?_⟩) (by rw[sz];omega) (by show(acc.push v).size<=sizeLine+1;rw[Array.size_push,sz];omega))
  refine qA Fd hn fin k (i+1) _ tk' (acc.push v) _ (by omega) (Fd.keepS _ _ _ st' other) ⟨J3 _ N2 rfl,by rw[Array.size_push,sz],?_,fun j u e =>?_⟩ (fun b o nb q=>k2 b o nb (kp b o nb q))
  ·rw[Array.toList_push]
   refine Ys.mpr ⟨G.pw,List.pairwise_singleton _ _,fun a ha b hb =>?_⟩
   obtain⟨j,hj⟩:=Ut.mp ha
   rw[Jz.mp hb]
   exact rv j a (G.all j a (by simpa using hj))
  ·by_cases hj:j<i
   ·rw[Array.getElem?_push_lt (by omega)] at e
    exact Fd.keepP _ _ _ _ (G.all j u (by rw[J9 (by omega)];exact e)) k2
   ·have Lj:j=i:=by
     have:=(Uv.mp e).1
     rw[Array.size_push] at this
     omega
    subst Lj
    have e':(acc.push v)[acc.size]? = some u:=by rw[sz];exact e
    rw[Array.getElem?_push_size] at e'
    cases e'
    exact Fd.keepP _ _ _ _ pv fun b o nb q=>other b o (fun z=>nb (.inr z)) q
theorem vZ (Fd:vT prog w A.in1 it S T fp n P R St)(hn:n<=sizeLine){s:Shared}{Z:Result->Shared->Prop}{res:Value}{c₀:Nat}(l9:St 0 s.heap)(hS:s.heap.get? S=some { cls := .type "list",data := .seq #[] c₀ })
  (fin:mG s.heap S fp n P R s (Z (.ok (.ret res)))) :
  wpAny (model prog w) A.in1 (Builtin.List.listExtendWith (.ref S) (.ref it) res) (tM prog w A Z) (fun e s'=>Z (.error e) s') s:=by
 have go:∀(h:Heap) (c tk:Nat),Keeps s.heap h (· = S)->h.get? S=some { cls := .type "list",data := .seq #[] c } -> codeAny (model prog w) A (.builtin "list.extend.loop" ⟨[.ref S,.ref it,res],[]⟩) Z { s with heap:=h,toks:=tk }:=
  fun h c tk k o=>qA Fd hn fin n 0 h tk #[] c (by omega) (Fd.keepS _ _ _ l9 k) ⟨o,rfl,.nil,fun j v e=>by simp at e⟩ fun b o nb q=>k b o (fun z=>nb (.inr z)) q
 obtain⟨oi,hoi,hci⟩:=Fd.ty 0 _ l9
 have hT:s.TypeIs (.ref it) T:=⟨oi,hoi,hci⟩
 have Dr:Builtin.List.listSameRef (.ref S) (.ref it)=false:=by simp[Builtin.List.listSameRef,Ne.symm Fd.ne]
 unfold Builtin.List.listExtendWith
 refine wpAny_bind (wpAny_typeOf hT ?_)
 simp only[Dr,Fd.nl,Fd.nt,Bool.or_false,Us,if_false]
 refine wpAny_bind (Fd.self s _ _ l9 ?_)
 have hint:∀(Q:Bool->Shared->Prop),Q true s->wpAny (model prog w) A.in1 (Builtin.List.listLengthHint (.ref it)) Q (fun e s'=>Z (.error e) s') s:=fun Q q=>by
  unfold Builtin.List.listLengthHint
  refine wpAny_bind (wpAny_specialOf hT Fd.nolen ?_)
  refine wpAny_ite_split (fun z=>absurd z (by decide)) fun _=>wpAny_ite_split (fun z=>absurd z (by decide)) fun _ =>?_
  exact wpAny_bind (wpAny_specialOf hT Fd.nohint (wpAny_pure q))
 refine wpAny_bind (wpAny_holding (hint _ ?_))
 refine wpAny_ite_split (fun _ =>?_) fun _=>wpAny_pure ⟨plainId_quiet PySem.F.plain_extend_loop _,go _ c₀ _ (fun _ _ _ q=>q) hS⟩
 refine wpAny_bind (wpAny_rule (wpAny_bind ?_))
 have o1:=J3 (Obj.mapSeq (·.push Value.none)) hS rfl
 have o2:=J3 (Obj.mapSeq (·.pop)) o1 rfl
 refine wpAny_bind (wpAny_updateSeq hS rfl (wpAny_updateSeq (hz:=by seq_fits) o1 rfl (wpAny_pure ⟨plainId_quiet PySem.F.plain_extend_loop _,go _ _ _ (fun b o nb q =>?_) o2⟩)))
 exact(J5 _ _ (Ne.symm nb)).trans ((J5 _ _ (Ne.symm nb)).trans q)
theorem zX (Fd:vT prog w A.in1 it S T fp n P R St)(hn:n<=sizeLine){s:Shared}{Z:Result->Shared->Prop}(l9:St 0 s.heap)(hS:s.heap.get? S=some { cls := .type "list",data := .seq #[] })
  (fin:mG s.heap S fp n P R s (Z (.ok (.ret .none)))) :
  wpAny (model prog w) A.in1 (Builtin.«list.__init__» ⟨[.ref S,.ref it],[]⟩) (tM prog w A Z) (fun e s'=>Z (.error e) s') s:=by
 refine wpAny_bind ?_
 unfold Builtin.List.listItems
 refine wpAny_bind (wpAny_seqItems hS rfl (wpAny_pure ?_))
 have o1:=J3 (Obj.mapSeq (fun _=>(#[]:Array Value))) hS rfl
 have k1:Keeps s.heap (s.heap.update S (Obj.mapSeq (fun _=>(#[]:Array Value)))) (· = S):=fun b o nb q=>(J5 _ _ (Ne.symm nb)).trans q
 refine wpAny_bind (wpAny_updateSeq hS rfl (wpAny_bind (wpAny_letGo ?_)))
 refine vZ (s:={ s with heap:=_ }) Fd hn (Fd.keepS _ _ _ l9 k1) o1 fun h' tk acc c k G =>?_
 exact fin h' tk acc c (fun b o nb q=>k b o nb (k1 b o (fun z=>nb (.inr z)) q)) G
theorem qu {s:Shared}{Q:Value->Shared->Prop}{E:Value->Shared->Prop}(Fd:vT prog w A.in1.in1 it s.heap.objs.size T fp n P R St)(hn:n<=sizeLine)(l9:∀o,St 0 (s.heap.push o))
  (fin:∀h' tk acc c,Keeps s.heap h' fp->nR h' s.heap.objs.size n P R acc c->Q (.ref s.heap.objs.size) { s with heap:=h',toks:=tk }) :
  wpAny (model prog w) A (call (.type "list") [.ref it]) Q E s:=by
 refine callType_codes (Q₁:=fun obj s₁=>obj = .ref s.heap.objs.size/\s₁={ s with heap:=s.heap.push { cls := .type "list",data := .seq #[] } }) F.called_list (F.typeCall_list_1 _) F.entry_list_init
  (code_list_new _ ⟨rfl,rfl⟩) fun obj s₁ h₁ =>?_
 obtain⟨rfl,rfl⟩:=h₁
 have hS:(s.heap.push { cls := .type "list",data := .seq #[] }).get? s.heap.objs.size=some { cls := .type "list",data := .seq #[] }:=Jk _ rfl
 refine⟨⟨_,hS,rfl⟩,F.args_list_init_2 _ _,zX (s:={ s with heap:=_ }) (A:=A.in1) Fd hn (l9 _) hS fun h' tk acc c k G=>⟨rfl,fin h' tk acc c (fun b o nb q =>?_) G⟩⟩
 exact k b o (fun z=>z.elim nb fun z=>bR (Jf q) (Je _) z) (Jb _ q)
end
abbrev fY (h:Heap)(z TI TO a:Addr)(f:Bool):Prop:=
 h.get? z=some { cls := .type "zip",dict:=none,data := .fields #[rawInt a,.bool f,.bool false,.ref TI,.ref TO],slots := #[] }
section
variable {prog:Program}{w:World}{A:Around}{E:Value->Shared->Prop}{s:Shared}{z TI TO i1 i2 l1 l2 a:Addr}{f:Bool}{oa:Obj}
theorem ki {Q:Bool->Shared->Prop}(hz:fY s.heap z TI TO a f)(ha:s.heap.get? a=some oa)
  (q:∀h,fY h z TI TO a true->Uz z s.heap h->Q false { s with heap:=h }):wpAny (model prog w) A (Builtin.SmallTypes.ownedTupleIsFree (.ref z)) Q E s:=by
 unfold Builtin.SmallTypes.ownedTupleIsFree
 refine wpAny_bind (wpAny_field hz rfl (x:=rawInt a) rfl ?_)
 show wpAny _ _ (loadIfAlive ((a:Int).toNat) >>= _) _ _ _
 rw[Yv]
 refine wpAny_bind (PySem.W.kdx_alive ha ?_)
 simp -iota only [Option.isNone_some,Us,if_false]
 refine wpAny_bind (wpAny_field hz rfl (x := .bool f) rfl ?_)
 cases f
 ·exact wpAny_bind (wpAny_setField_rec hz (by simp) fun h e k=>wpAny_pure (q h e k))
 ·exact wpAny_pure (q s.heap hz (Uz.refl _ _))
theorem sW {k:Nat}{xs ys:Array Value}{x y:Value}{Q:Option Value->Shared->Prop}(D:ZipApart z TI TO i1 i2 l1 l2)(hz:fY s.heap z TI TO a f)(ha:s.heap.get? a=some oa)(oP:IsPair s.heap TI (.ref i1) (.ref i2))
  (h1:s.heap.IsListIter i1 l1 k) (h2:s.heap.IsListIter i2 l2 k) (pU:s.heap.IsList l1 xs) (u3:s.heap.IsList l2 ys) (hx:xs[k]? = some x) (hy:ys[k]? = some y)
  (q:∀h',fY h' z TI TO a true->h'.IsListIter i1 l1 (k+1)->h'.IsListIter i2 l2 (k+1)->IsPair h' s.heap.objs.size x y->Keeps s.heap h' (fun b=>b=z∨b=i1∨b=i2)->Q (some (.ref s.heap.objs.size)) { s with heap:=h' }) :
  wpAny (model prog w) A (pyNext (.ref z)) Q E s:=by
 have hT:s.TypeIs (.ref z) "zip":=⟨_,hz,rfl⟩
 unfold pyNext
 refine wpAny_bind (wpAny_attempt (wpAny_callSpecial?_slot (name:=Str.ofString "__next__") hT F.slot_zip_next (wpAny_call_entry F.slot_zip_next hT F.entry_zip_next ?_ (F.args_zip_next_1 _))))
 change wpAny _ _ (Bind.bind (field (.ref z) 2) _) _ _ _
 refine wpAny_bind (wpAny_field hz rfl (x := .bool false) rfl ?_)
 change wpAny _ _ (Bind.bind (field (.ref z) 3) _) _ _ _
 refine wpAny_bind (wpAny_field hz rfl (x := .ref TI) rfl (wpAny_bind (wpAny_seqItems oP rfl ?_)))
 change wpAny _ _ (Bind.bind (Builtin.SmallTypes.ownedTupleIsFree (.ref z)) _) _ _ _
 refine wpAny_bind (ki hz ha fun h0 z0 k0 =>?_)
 simp -iota only [Us,if_false,<-Array.forIn_toList,Yn,Wa]
 refine wpAny_bind (wpAny_bind (wpAny_bind (wpAny_holding (wpAny_bind (wpAny_nextOf_list_item (h1.extBut k0.extBut D.i1z) (pU.extBut k0.extBut D.l1z) hx fun h4 e4 k4=>wpAny_pure (wpAny_pure ?_))))))
 refine wpAny_bind (wpAny_bind (wpAny_holding (wpAny_bind (wpAny_nextOf_list_item ((h2.extBut k0.extBut D.i2z).extBut k4.extBut D.i12.symm) ((u3.extBut k0.extBut D.l2z).extBut k4.extBut D.l2i1) hy fun h5 e5 k5=>wpAny_pure (wpAny_pure (wpAny_pure ?_))))))
 refine wpAny_bind (wpAny_newTuple (hsz:=by show 2<=sizeLine;decide) (wpAny_pure ⟨_,rfl,wpAny_pure ?_⟩))
 have hsz:h5.objs.size=s.heap.objs.size:=by rw[k5.1,k4.1,k0.1]
 show Q (some (.ref h5.objs.size)) _
 rw[hsz]
 refine q (h5.push { cls := .type "tuple",data := .seq #[x,y] }) (Jb _ (k5.extBut _ _ D.i2z.symm (k4.extBut _ _ D.i1z.symm z0))) ((e4.extBut k5.extBut D.i12).at fun o e=>Jb _ e) (e5.at fun o e=>Jb _ e) (by rw[<-hsz];exact Jk _ rfl) fun b o nb e =>?_
 exact Jb _ (k5.extBut _ _ (fun z=>nb (.inr (.inr z))) (k4.extBut _ _ (fun z=>nb (.inr (.inl z))) (k0.extBut _ _ (fun z=>nb (.inl z)) e)))
theorem tS {k:Nat}{xs ys:Array Value}{Q:Option Value->Shared->Prop}(hh:A.handled=none)(D:ZipApart z TI TO i1 i2 l1 l2)(hz:fY s.heap z TI TO a f)(ha:s.heap.get? a=some oa)(oP:IsPair s.heap TI (.ref i1) (.ref i2))
  (h1:s.heap.IsListIter i1 l1 k) (h2:s.heap.IsListIter i2 l2 k) (pU:s.heap.IsList l1 xs) (u3:s.heap.IsList l2 ys) (he:xs[k]? = none∨ys[k]? = none)
  (q:∀h',Keeps s.heap h' (fun b=>b=z∨b=i1∨b=i2)->Q none { s with heap:=h' }) :
  wpAny (model prog w) A (pyNext (.ref z)) Q E s:=by
 have hT:s.TypeIs (.ref z) "zip":=⟨_,hz,rfl⟩
 unfold pyNext
 refine wpAny_bind (wpAny_attempt (wpAny_callSpecial?_slot (name:=Str.ofString "__next__") hT F.slot_zip_next (wpAny_call_entry F.slot_zip_next hT F.entry_zip_next ?_ (F.args_zip_next_1 _))))
 change wpAny _ _ (Bind.bind (field (.ref z) 2) _) _ _ _
 refine wpAny_bind (wpAny_field hz rfl (x := .bool false) rfl ?_)
 change wpAny _ _ (Bind.bind (field (.ref z) 3) _) _ _ _
 refine wpAny_bind (wpAny_field hz rfl (x := .ref TI) rfl (wpAny_bind (wpAny_seqItems oP rfl ?_)))
 change wpAny _ _ (Bind.bind (Builtin.SmallTypes.ownedTupleIsFree (.ref z)) _) _ _ _
 refine wpAny_bind (ki hz ha fun h0 z0 k0 =>?_)
 simp -iota only [Us,if_false,<-Array.forIn_toList,Yn,Wa]
 refine wpAny_bind (wpAny_bind (wpAny_bind (wpAny_holding ?_)))
 cases hx:xs[k]? with
 | none=>
  refine wpAny_bind (wpAny_nextOf_list_end hh (h1.extBut k0.extBut D.i1z) (pU.extBut k0.extBut D.l1z) hx fun h4 e k4 oe =>?_)
  refine ai.el (oe) _ ?_
  rintro o ho hc
  exact wpAny_bind (wpAny_isInstance (T := "StopIteration") (b:=true) ⟨o,ho,hc⟩ isSubtype_stop (wpAny_pure (q h4 fun b o nb x=>k4 _ _ (fun z=>nb (.inr (.inl z))) (k0.extBut _ _ (fun z=>nb (.inl z)) x))))
 | some x=>
  have hy:ys[k]? = none:=he.resolve_left (by rw[hx];exact fun z=>nomatch z)
  refine wpAny_bind (wpAny_nextOf_list_item (h1.extBut k0.extBut D.i1z) (pU.extBut k0.extBut D.l1z) hx fun h4 e4 k4=>wpAny_pure (wpAny_pure ?_))
  refine wpAny_bind (wpAny_bind (wpAny_holding (wpAny_bind (wpAny_nextOf_list_end hh ((h2.extBut k0.extBut D.i2z).extBut k4.extBut D.i12.symm) ((u3.extBut k0.extBut D.l2z).extBut k4.extBut D.l2i1) hy fun h5 e k5 oe =>?_))))
  refine ai.el (oe) _ ?_
  rintro o ho hc
  exact wpAny_bind (wpAny_isInstance (T := "StopIteration") (b:=true) ⟨o,ho,hc⟩ isSubtype_stop (wpAny_pure (q h5 fun b o nb x=>k5 _ _ (fun z=>nb (.inr (.inr z))) (k4.extBut _ _ (fun z=>nb (.inr (.inl z))) (k0.extBut _ _ (fun z=>nb (.inl z)) x)))))
end
structure u0 (z TI TO i1 i2 l1 l2 S:Addr)(xs ys:Array Value)(i:Nat)(h:Heap):Prop where
 ti:IsPair h TI (.ref i1) (.ref i2)
 to:∃a b,IsPair h TO a b
 it1:h.IsListIter i1 l1 i
 it2:h.IsListIter i2 l2 i
 a1:h.IsList l1 xs
 a2:h.IsList l2 ys
 zp:IsZip h z TI TO .none∨0<i/\∃a f oa,fY h z TI TO a f/\h.get? a=some oa/\S<a
abbrev mn (z TO i1 i2:Addr)(b:Addr):Prop:=b=z∨b=TO∨b=i1∨b=i2
abbrev sP (S:Addr)(xs ys:Array Value)(j:Nat)(v:Value)(h:Heap):Prop:=m7 fun a x y=>v = .ref a/\S<a/\xs[j]? = some x/\ys[j]? = some y/\IsPair h a x y
abbrev iW (u v:Value):Prop:=∃a b:Addr,u = .ref a/\v = .ref b/\a<b
theorem uZ {prog:Program}{w:World}{A:Around}{z TI TO i1 i2 l1 l2 S:Addr}{xs ys:Array Value}(hh:A.handled=none)(D:ZipApart z TI TO i1 i2 l1 l2)(b1:z<S)(b2:TI<S)(b3:TO<S)(b4:i1<S)(b5:i2<S)(b6:l1<S)(b7:l2<S):
  vT prog w A z S "zip" (mn z TO i1 i2) (min xs.size ys.size) (sP S xs ys) iW (u0 z TI TO i1 i2 l1 l2 S xs ys) where
 sfp:=fun q=>by
  rcases q with q|q|q|q<;>(rw[q] at b1 b3 b4 b5;first|exact absurd b1 (J7 _)|exact absurd b3 (J7 _)|exact absurd b4 (J7 _)|exact absurd b5 (J7 _))
 ne:=Jm b1
 ty:=fun i h st=>by
  rcases st.zp with q|⟨_,a,f,oa,q,_⟩
  ·exact⟨_,q,rfl⟩
  ·exact⟨_,q,rfl⟩
 self:=fun s Q E st q=>by
  rcases st.zp with r|⟨r,_⟩
  ·exact wpAny_pyIter_zip r q
  ·exact absurd r (J7 _)
 item:=fun i s Q E hi st hS q=>by
  obtain⟨ti,⟨a,b,to⟩,it1,it2,a1,a2,zp⟩:=st
  have hx:xs[i]? = some (xs[i]'(by omega)):=J9 (by omega)
  have hy:ys[i]? = some (ys[i]'(by omega)):=J9 (by omega)
  have old:∀j u,sP S xs ys j u s.heap->iW u (.ref s.heap.objs.size):=fun j u hz_=>ai.el hz_ _ fun a x y e _ _ _ p=>⟨a,_,e,rfl,Jf p⟩
  rcases zp with r|⟨hi0,c,f,oc,r,oc',hc⟩
  ·refine wpAny_pyNext_zip_item D r ti to it1 it2 a1 a2 hx hy fun h' r1 r2 r3 r4 r5 r6 r7 =>?_
   have kp:Keeps s.heap h' (mn z TO i1 i2):=fun b o nb e=>r7 b o (fun z=>nb (.inl z)) (fun z=>nb (.inr (.inl z))) (fun z=>nb (.inr (.inr (.inl z)))) (fun z=>nb (.inr (.inr (.inr z)))) e
   refine q _ h' s.toks kp ⟨r7 _ _ D.TIz D.TITO D.TIi1 D.TIi2 ti,⟨_,_,r2⟩,r3,r4,a1.at fun o e=>r7 _ _ D.l1z D.l1TO D.l1i1 D.l1i2 e,a2.at fun o e=>r7 _ _ D.l2z D.l2TO D.l2i1 D.l2i2 e,.inr ⟨Nat.succ_pos _,_,_,_,r1,r5,hS⟩⟩ ⟨_,_,_,rfl,hS,hx,hy,r5⟩ old
  ·have ne:∀{b:Addr},b<S->c≠b:=fun hb=>Uc (Nat.lt_trans hb hc)
   refine sW D r oc' ti it1 it2 a1 a2 hx hy fun h' r1 r2 r3 r4 r5 =>?_
   have kp:Keeps s.heap h' (mn z TO i1 i2):=fun b o nb e=>r5 b o (fun z=>z.elim (fun z=>nb (.inl z)) fun z=>nb (.inr (.inr z))) e
   refine q _ h' s.toks kp ⟨r5 _ _ (fun z=>z.elim D.TIz fun z=>z.elim D.TIi1 D.TIi2) ti,⟨_,_,r5 _ _ (fun z=>z.elim D.TOz fun z=>z.elim D.TOi1 D.TOi2) to⟩,r2,r3,a1.at fun o e=>r5 _ _ (fun z=>z.elim D.l1z fun z=>z.elim D.l1i1 D.l1i2) e,a2.at fun o e=>r5 _ _ (fun z=>z.elim D.l2z fun z=>z.elim D.l2i1 D.l2i2) e,
    .inr ⟨Nat.succ_pos _,_,_,_,r1,r5 _ _ (fun z=>z.elim (ne b1) fun z=>z.elim (ne b4) (ne b5)) oc',hc⟩⟩ ⟨_,_,_,rfl,hS,hx,hy,r4⟩ old
 stop:=fun s Q E st hS q=>by
  obtain⟨ti,⟨a,b,to⟩,it1,it2,a1,a2,zp⟩:=st
  have he:xs[min xs.size ys.size]? = none∨ys[min xs.size ys.size]? = none:=by
   rcases Nat.le_total xs.size ys.size with h|h
   ·exact .inl (Yj (by omega))
   ·exact .inr (Yj (by omega))
  rcases zp with r|⟨hi0,c,f,oc,r,oc',hc⟩
  ·exact wpAny_pyNext_zip_end hh D r ti to it1 it2 a1 a2 he fun h' k=>q h' s.toks fun b o nb e=>k b o (fun z=>nb (.inl z)) (fun z=>nb (.inr (.inl z))) (fun z=>nb (.inr (.inr (.inl z)))) (fun z=>nb (.inr (.inr (.inr z)))) e
  ·exact tS hh D r oc' ti it1 it2 a1 a2 he fun h' k=>q h' s.toks fun b o nb e=>k b o (fun z=>z.elim (fun z=>nb (.inl z)) fun z=>nb (.inr (.inr z))) e
 keepS:=fun i h h' st k=>by
  obtain⟨ti,⟨a,b,to⟩,it1,it2,a1,a2,zp⟩:=st
  refine⟨k _ _ (Jm b2) ti,⟨a,b,k _ _ (Jm b3) to⟩,it1.at fun o e=>k _ o (Jm b4) e,it2.at fun o e=>k _ o (Jm b5) e,a1.at fun o e=>k _ o (Jm b6) e,a2.at fun o e=>k _ o (Jm b7) e,?_⟩
  rcases zp with r|⟨hi0,c,f,oc,r,oc',hc⟩
  ·exact .inl (k _ _ (Jm b1) r)
  ·exact .inr ⟨hi0,c,f,oc,k _ _ (Jm b1) r,k _ _ (Uc hc) oc',hc⟩
 keepP:=fun j v h h' ⟨a,x,y,e,ha,h1,h2,p⟩ k=>by
  have ne:∀{b:Addr},b<S->a≠b:=fun hb=>Uc (Nat.lt_trans hb ha)
  exact⟨a,x,y,e,ha,h1,h2,k _ _ (fun z=>z.elim (fun z=>z.elim (ne b1) fun z=>z.elim (ne b3) fun z=>z.elim (ne b4) (ne b5)) (Uc ha)) p⟩
 nolen:=by rw[typeLookup_type,builtinLookup_eq_fast];kernel_rfl
 nohint:=by rw[typeLookup_type,builtinLookup_eq_fast];kernel_rfl
 nl:=by decide
 nt:=by decide
theorem Inv.kr {X:Cx}{pins:List (Addr×Obj)}{σ:St}:∀(as:List Addr) (ps:List (List V)) {H:Hp} {s:Shared},Inv X pins σ H s->as.Nodup->as.length=ps.length->(∀a∈as,dE X pins H a/\X.s₀.heap.objs.size<=a) ->
  (∀(j:Nat) a p,as[j]? = some a->ps[j]? = some p->p.length<=sizeLine/\∃au:List Value,Vals p au/\sV s.heap a au.toArray) ->
  ∃H',Inv X pins σ H' s/\ao H H'/\(∀b,b∉as->H' b=H b)/\∀(j:Nat) a p,as[j]? = some a->ps[j]? = some p->H' a=some (.tup p)
 | [],ps,H,s,I,_,_,_,_=>⟨H,I,ao.refl H,fun _ _=>rfl,fun j a p h _=>by simp at h⟩
 | a::as,[],H,s,I,_,hl,_,_=>by simp at hl
 | a::as,p::ps,H,s,I,nd,hl,hf,ho=>by
  obtain⟨na,Vg⟩:=U9.mp nd
  obtain⟨fa,sa⟩:=hf a Jr
  obtain⟨hz,au,rv,ht⟩:=ho 0 a p rfl rfl
  have I1:=I.adopt (T:=a) (o := .tup p) fa sa ⟨hz,au,rv,ht⟩
  obtain⟨H',I',sm,same,all⟩:=Inv.kr as ps I1 Vg (by simpa using hl) (fun b hb=>by
   obtain⟨fb,sb⟩:=hf b (Jo _ hb)
   exact⟨⟨by rw[ak (fun(e:b=a)=>na (by rw[<-e];exact hb))];exact fb.1,fb.2⟩,sb⟩) (fun j b q h1 h2=>ho (j+1) b q h1 h2)
  refine⟨H',I',fun b o e=>sm b o (by rw[ak (aw e fa.1)];exact e),fun b hb =>?_,fun j b q h1 h2 =>?_⟩
  ·rw[same b fun z=>hb (Jo _ z),ak (fun(z:b=a)=>hb (by rw[z];exact Jr))]
  ·cases j with
   | zero=>
    cases h1;cases h2
    rw[same a na];exact ay
   | succ j=>exact all j b q h1 h2
theorem mF:∀{l:List Value},(∀v∈l,∃a:Addr,v = .ref a)->∃as:List Addr,l=as.map Value.ref
 | [],_=>⟨[],rfl⟩
 | v::r,h=>by
  obtain⟨a,rfl⟩:=h v Jr
  obtain⟨as,rfl⟩:=mF fun u hu=>h u (Jo _ hu)
  exact⟨a::as,rfl⟩
section
variable {X:Cx}
def V5 (K:Ja)(ta:TA):TE:=fun σ H Q=>ta σ H fun vs H1=>qi fun l1 l2 xs ys=>vs=[.ref l1,.ref l2]/\bb K H1 l1 xs/\bb K H1 l2 ys /\
 ∀H' p (as:List Addr),ao H1 H'->H1 p=none->H' p=some (.lst (as.map V.ref))->as.length=min xs.length ys.length ->
  (∀(j:Nat) a x y,as[j]? = some a->xs[j]? = some x->ys[j]? = some y->H1 a=none/\H' a=some (.tup [x,y]))->Q (.ref p) H'
theorem qa {xs ys:List V}(j:Nat)(x y:V)(hx:xs[j]? = some x)(hy:ys[j]? = some y):((xs.zip ys).map fun q=>[q.1,q.2])[j]? = some [x,y]:=by
 rw[Ji,(U5 (z:=(x,y))).mpr ⟨hx,hy⟩]
 rfl
theorem wR {a b:Expr}{ta:TA}{p p2 pos j6:Pos}(hc:X.calm=true)(JK:Gl X "list")(JW:X.mg "list" = none)(Pb:Gl X "zip")(Oz:X.mg "zip" = none)(ha:PA X [a,b] ta)
  (Ls:bootBuiltins "list" = some (.type "list"):=by first|rfl|decide) (Ox:bootBuiltins "zip" = some (.type "zip"):=by first|rfl|decide)
  (Eu:starEach [.Call (.Name "zip" p2) [a,b] [] j6] X.env=[(false,eval (.Call (.Name "zip" p2) [a,b] [] j6) X.env)]:=by rfl)
  (hs:starEach [a,b] X.env=[(false,eval a X.env),(false,eval b X.env)]:=by rfl) (yS:starEach [b] X.env=[(false,eval b X.env)]:=by rfl) :
  PE X (.Call (.Name "list" p) [.Call (.Name "zip" p2) [a,b] [] j6] [] pos) (V5 X.K ta):=by
 intro pins s σ H Q I h
 refine wpAny_Call_Name_kw (dY I JK JW Ls ?_)
 refine PyProof.Rows.callWith_type1 ?_ Eu rfl
 rw[Eu]
 show wpAny _ _ (spliced ((false,eval (.Call (.Name "zip" p2) [a,b] [] j6) X.env)::[])) _ _ _
 refine Calls.spliced_cons ?_
 refine Call_ (dY I Pb Oz Ox (PyProof.Rows.callWith_type1 (bg (ha s σ H _ I h) fun us s1 hz_=>ai.el hz_ _ fun vs H1 I1 r1 q1 =>?_) (by rw[hs,yS]) (by rw[yS];rfl)))
 obtain⟨l1,l2,xs,ys,e,q1,q2,q⟩:=q1
 subst e
 obtain⟨u,w',rfl,r1,r2⟩:=vals2 r1
 cases r1;cases r2
 obtain⟨its1,rv1,p1,hz1⟩:=I1.list q1
 refine ai.el (I1.list q2) _ ?_
 rintro its2 rv2 p2 hz2
 have e1:=rv1.length
 have e2:=rv2.length
 have a1:l1<s1.heap.objs.size:=by obtain⟨_,e,_⟩:=p1.isList;exact Jf e
 have a2:l2<s1.heap.objs.size:=by obtain⟨_,e,_⟩:=p2.isList;exact Jf e
 refine call_zip_2 p1.isList p2.isList fun h' hz oP wa hi1 hi2 hsz hk =>?_
 refine Calls.spliced_nil ?_
 have qG:s1.heap.objs.size<=h'.objs.size:=by rw[hsz];exact Ur _ _
 have jr:∀n,n<5->s1.heap.objs.size+n<h'.objs.size:=fun n hn=>by rw[hsz];exact Nat.add_lt_add_left hn _
 have zs:∀o,u0 (s1.heap.objs.size+4) (s1.heap.objs.size+2) (s1.heap.objs.size+3) s1.heap.objs.size (s1.heap.objs.size+1) l1 l2 h'.objs.size its1.toArray its2.toArray 0 (h'.push o):=fun o=>
  ⟨Jb _ oP,⟨_,_,Jb _ wa⟩,hi1.at fun o e=>Jb _ e,hi2.at fun o e=>Jb _ e,(p1.isList.at fun o e=>hk _ o e).push _,(p2.isList.at fun o e=>hk _ o e).push _,.inl (Jb _ hz)⟩
 refine qu (s:={ s1 with heap:=h' }) (uZ (I.ok.hd hc) (zipApart_new a1 a2) (jr 4 (by decide)) (jr 2 (by decide)) (jr 3 (by decide)) (jr 0 (by decide)) (jr 1 (by decide)) (Jq a1 qG) (Jq a2 qG)) (by simp;omega) zs fun h2 tk acc c KC G =>?_
 obtain⟨hS2,hsz2,hpw,iR⟩:=G
 obtain⟨as,gf⟩:=mF (l:=acc.toList) fun v hv=>by
  obtain⟨j,hj⟩:=Ut.mp hv
  obtain⟨a,_,_,e,_⟩:=iR j v (by simpa using hj)
  exact⟨a,e⟩
 have iT:∀(j:Nat) a,as[j]? = some a->∃x y,h'.objs.size<a/\its1.toArray[j]? = some x/\its2.toArray[j]? = some y/\IsPair h2 a x y:=fun j a h=>by
  obtain⟨a',x,y,e,g⟩:=iR j (.ref a) (by
   have:acc.toList[j]? = some (.ref a):=by rw[gf,Ji,h];rfl
   simpa using this)
  cases e
  exact⟨x,y,g⟩
 have above:∀a∈as,h'.objs.size<a:=fun a ha=>by
  obtain⟨j,hj⟩:=Ut.mp ha
  obtain⟨_,_,g,_⟩:=iT j a hj
  exact g
 have old:∀b o,s1.heap.get? b=some o->h2.get? b=some o:=fun b o e=>by
  have hb:=Jf e
  have gt:∀n,b≠s1.heap.objs.size+n:=fun n=>Jm (Jq hb (Ur _ _))
  exact KC b o (fun z=>z.elim (gt 4) fun z=>z.elim (gt 3) fun z=>z.elim (gt 0) (gt 1)) (hk b o e)
 have I2:Inv X pins σ H1 { s1 with heap:=h2,toks:=tk }:=I1.kept old
 have tU:∀a∈as,s1.heap.objs.size<=a:=fun a ha=>U8 (J1 qG (above a ha))
 have nd:as.Nodup:=by
  rw[gf,List.pairwise_map] at hpw
  exact hpw.imp fun hz_=>ai.el hz_ _ fun a b e1 e2 h=>by cases e1;cases e2;exact Jm h
 have eB:∀a,s1.heap.objs.size<=a->dE X pins H1 a/\X.s₀.heap.objs.size<=a:=fun a ha=>⟨I1.eB ha (I1.bC.fresh ha),Jh I1.sz ha⟩
 have Hl:as.length=min xs.length ys.length:=by
  have z:acc.toList.length=as.length:=by rw[gf,Jc]
  simp at z hsz2
  omega
 obtain⟨H',I',sm,same,all⟩:=I2.kr as ((xs.zip ys).map fun q=>[q.1,q.2]) nd (by rw[Jc,U4];omega) (fun a ha=>eB a (tU a ha)) (fun j a pp h1 h2'=>by
  refine ai.el (iT j a h1) _ ?_
  rintro x y _ g1 g2 g3
  refine ai.el (ke rv1 g1) _ ?_
  rintro vx gx rx
  refine ai.el (ke rv2 g2) _ ?_
  rintro vy gy ry
  have z:=qa j vx vy gx gy
  rw[z] at h2';cases h2'
  exact⟨by show 2<=sizeLine;decide,[x,y],.cons rx (.cons ry .nil),⟨_,g3,rfl,rfl,_,rfl⟩⟩)
 have EV:h'.objs.size∉as:=fun hm=>J7 _ (above _ hm)
 have mM:H1 h'.objs.size=none:=I1.bC.fresh qG
 obtain⟨fS,sS⟩:=eB h'.objs.size qG
 have NI:dE X pins H' h'.objs.size:=⟨by rw[same _ EV];exact mM,fS.2⟩
 have I3:=I'.adopt (T:=h'.objs.size) (o := .lst (as.map V.ref)) NI sS ⟨by rw[Jc];omega,acc.toList,c,by
  rw[gf]
  clear hS2 gf all same I' sm tU nd Hl EV above iT
  induction as with
  | nil=>exact .nil
  | cons a r ih=>exact .cons rfl ih,by simpa using hS2⟩
 refine⟨.ref h'.objs.size,_,I3,rfl,q _ _ as (fun b o e =>?_) mM ay Hl fun j a x y h1 h2' h3'=>⟨(eB a (tU a (J2 h1))).1.1,?_⟩⟩
 ·rw[ak (aw e mM)];exact sm b o e
 ·rw[ak (fun(z:a=h'.objs.size)=>EV (by rw[<-z];exact J2 h1))]
  exact all j a [x,y] h1 (qa j x y h2' h3')
end
structure gX (H:Hp)(p:Addr)(o:HO)(H':Hp):Prop where
 nn:H p=none
 eq:H'=upd H p o
theorem gX.at {H H':Hp}{p:Addr}{o:HO}(n:gX H p o H'):H' p=some o:=by rw[n.eq];exact ay
theorem gX.ne {H H':Hp}{p a:Addr}{o:HO}(n:gX H p o H')(h:a≠p):H' a=H a:=by rw[n.eq];exact ak h
theorem gX.same {H H':Hp}{p:Addr}{o:HO}(n:gX H p o H'):ao H H':=fun a u e=>by rw[n.ne (aw e n.nn)];exact e
theorem gX.back {H H':Hp}{p a:Addr}{o:HO}(n:gX H p o H')(h:H' a=none):H a=none:=by
 cases e:H a with
 | none=>rfl
 | some u=>rw[n.same a u e] at h;cases h
structure AH (H:Hp)(p:Addr)(o:HO)(H':Hp):Prop where
 eq:H'=upd H p o
theorem AH.at {H H':Hp}{p:Addr}{o:HO}(n:AH H p o H'):H' p=some o:=by rw[n.eq];exact ay
theorem AH.ne {H H':Hp}{p a:Addr}{o:HO}(n:AH H p o H')(h:a≠p):H' a=H a:=by rw[n.eq];exact ak h
theorem tN {H:Hp}{o:HO}{F:Addr->Hp->Prop}:(∀p,H p=none->F p (upd H p o)) = ∀p H',gX H p o H'->F p H':=
 propext ⟨fun h p H' n=>by rw[n.eq];exact h p n.nn,fun h p hp=>h p _ ⟨hp,rfl⟩⟩
theorem Fy {H:Hp}{p:Addr}{o:HO}{F:Hp->Prop}:F (upd H p o) = ∀H',AH H p o H'->F H':=
 propext ⟨fun h H' n=>by rw[n.eq];exact h,fun h=>h _ ⟨rfl⟩⟩
section
variable {X:Cx}{pos:Pos}{es:List Expr}{t:TA}
def yA (t:TA):TE:=fun σ H Q=>t σ H fun xs H1=>xs.length<=sizeLine/\∀p H',gX H1 p (.tup xs) H'->Q (.ref p) H'
def Iy (t:TA):TE:=fun σ H Q=>t σ H fun xs H1=>xs.length<=sizeLine/\∀p H',gX H1 p (.lst xs) H'->Q (.ref p) H'
theorem fu {x1}(h:PA X es t):PE X (.Tuple es x1 pos) (yA t):=by
 have e:yA t=PM t:=by
  funext σ H Q
  show t σ H _=t σ H _
  congr 1;funext xs H1
  exact congrArg (_ /\ ·) (tN (F:=fun p H'=>Q (.ref p) H')).symm
 rw[e];exact D8 h
theorem fE (h:PA X es t):PE X (.List es pos) (Iy t):=by
 have e:Iy t=Pt t:=by
  funext σ H Q
  show t σ H _=t σ H _
  congr 1;funext xs H1
  exact congrArg (_ /\ ·) (tN (F:=fun p H'=>Q (.ref p) H')).symm
 rw[e];exact LU h
def yh (uC:List (TE×TE)):TE:=fun σ H Q=>∀p H0,gX H p (.dK []) H0->nh uC σ H0 fun ps H2=>H2 p=some (.dK [])/\∃kvs:List (Key×V),ps=kvs.map (fun kv=>(kV kv.1,kv.2))/\kvs.length<=15/\∀H3,AH H2 p (.dK (cz [] kvs)) H3->Q (.ref p) H3
theorem Nu {keys:List (Option Expr)}{values:List Expr}{uC:List (TE×TE)}(h:N4 X pos keys values uC)(iR:keys.all (·.isSome)=true)(hl:keys.length=values.length)(h0:keys≠[])
  (TH:keys.length<=15):PE X (.Dict keys values pos) (yh uC):=by
 have e:yh uC=Dc uC:=by
  funext σ H Q
  unfold yh Dc
  rw[tN (F:=fun p H0=>nh uC σ H0 fun ps H2=>H2 p=some (.dK [])/\∃kvs:List (Key×V),ps=kvs.map (fun kv=>(kV kv.1,kv.2))/\kvs.length<=15/\Q (.ref p) (upd H2 p (.dK (cz [] kvs))))]
  simp only[<-Fy (F:=fun H3=>Q (.ref _) H3)]
 rw[e];exact G6 h iR hl h0 TH
end
section
variable {X:Cx}(K:Ja)
def TX (K:Ja):V->Option Int->Option Int->Hp->VK->Prop:=fun x lo hi H Q=>(dS fun a xs=>x = .ref a/\bb K H a xs/\∀p H',gX H p (.lst (ie xs lo hi)) H'->Q (.ref p) H')∨(∃z,x = .str z/\z.length<=sizeLine/\Q (.str (Txt.slice z lo hi)) H)
theorem VM (hK:X.K=K:=by rfl):Cn X (TX K):=by
 subst hK
 intro pins s σ H x v vl vu lo hi sl Q I rx hs pl pu q
 refine PN s σ H x v vl vu lo hi sl Q I rx hs pl pu ?_
 rcases q with ⟨a,xs,e,h,q⟩|q
 ·exact .inl ⟨a,xs,e,h,fun p hp=>q p _ ⟨hp,rfl⟩⟩
 ·exact .inr q
theorem EX (hK:X.K=K:=by rfl):bE X (.type "list") (fun xs H Q=>∃p ys,xs=[.ref p]/\(bb K H p ys∨br K H p ys)/\∀l H',gX H l (.lst ys) H'->Q (.ref l) H'):=by
 subst hK
 intro pins s σ H xs us Q I r h
 refine ai.el (h) _ ?_
 rintro p ys e h q
 exact tf s σ H xs us Q I r ⟨p,ys,e,h,fun l hl=>q l _ ⟨hl,rfl⟩⟩
theorem oG (hK:X.K=K:=by rfl):bE X (.type "tuple") (fun xs H Q=>∃p ys,xs=[.ref p]/\((bb K H p ys/\∀l H',gX H l (.tup ys) H'->Q (.ref l) H')∨(br K H p ys/\Q (.ref p) H))):=by
 subst hK
 intro pins s σ H xs us Q I r h
 refine ai.el (h) _ ?_
 rintro p ys e h
 refine pP s σ H xs us Q I r ⟨p,ys,e,?_⟩
 rcases h with ⟨h,q⟩|h
 ·exact .inl ⟨h,fun l hl=>q l _ ⟨hl,rfl⟩⟩
 ·exact .inr h
end
section
variable {X:Cx}
def NX:R2:=fun x y H Q=>(dS fun i j=>x = .int i/\y = .int j/\Q (.int (i+j)) H)∨(∃i j,x = .str i/\y = .str j/\i.length+j.length<=sizeLine/\Q (.str (i++j)) H) ∨
 qi fun l b xs zs=>x = .ref l/\y = .ref b/\H l=some (.lst xs)/\H b=some (.lst zs)/\xs.length+zs.length<=sizeLine/\∀p H',gX H p (.lst (xs++zs)) H'->Q (.ref p) H'
theorem cE:dR X (binaryOp .Add) NX:=by
 intro pins s σ H x y v u Q I rx ry h
 refine M1 s σ H x y v u Q I rx ry ?_
 rcases h with h|h|⟨l,b,xs,zs,e1,e2,h1,h2,h3,q⟩
 ·exact .inl h
 ·exact .inr (.inl h)
 ·exact .inr (.inr ⟨l,b,xs,zs,e1,e2,h1,h2,h3,fun p hp=>q p _ ⟨hp,rfl⟩⟩)
def Ik:R2:=fun x y H Q=>(dS fun i j=>x = .int i/\y = .int j/\ye i j/\Q (.int (i*j)) H) ∨
 m7 fun l k xs=>x = .ref l/\y = .int k/\H l=some (.lst xs) /\ -(2^63)<=k/\k<2^63/\xs.length*k.toNat<=sizeLine/\∀p H',gX H p (.lst (Ju k.toNat xs).flatten) H'->Q (.ref p) H'
theorem sy:dR X (binaryOp .Mult) Ik:=by
 intro pins s σ H x y v u Q I rx ry h
 refine MQ s σ H x y v u Q I rx ry ?_
 rcases h with h|⟨l,k,xs,e1,e2,h1,h2,h3,h4,q⟩
 ·exact .inl h
 ·exact .inr ⟨l,k,xs,e1,e2,h1,h2,h3,h4,fun p hp=>q p _ ⟨hp,rfl⟩⟩
theorem Fq:bE X (.builtin "divmod") (fun xs H Q=>∃i j,xs=[.int i,.int j]/\G0 i j/\∀p H',gX H p (.tup [.int (i / j),.int (i%j)]) H'->Q (.ref p) H'):=by
 intro pins s σ H xs us Q I r h
 refine ai.el (h) _ ?_
 rintro i j e c q
 exact uS s σ H xs us Q I r ⟨i,j,e,c,fun p hp=>q p _ ⟨hp,rfl⟩⟩
theorem jd:Mr X "list.append" (fun x vs H Q=>∃l xs y,x = .ref l/\vs=[y]/\H l=some (.lst xs)/\xs.length<sizeLine/\∀H',AH H l (.lst (xs++[y])) H'->Q .non H'):=by
 intro pins s σ H x xs v us Q I rx rv h
 refine ai.el (h) _ ?_
 rintro l ys y e1 e2 h1 h2 q
 exact B9 s σ H x xs v us Q I rx rv ⟨l,ys,y,e1,e2,h1,h2,q _ ⟨rfl⟩⟩
theorem Kv:Mr X "list.pop" (fun x vs H Q=>∃l xs i y,x = .ref l/\vs=[.int i]/\H l=some (.lst xs)/\0<=i/\i<2^63/\xs[i.toNat]? = some y/\∀H',AH H l (.lst (xs.eraseIdx i.toNat)) H'->Q y H'):=by
 intro pins s σ H x xs v us Q I rx rv h
 refine ai.el (h) _ ?_
 rintro l ys i y e1 e2 h1 h2 h3 h4 q
 refine C7 s σ H x xs v us Q I rx rv ⟨l,ys,i,i.toNat,y,e1,e2,h1,by omega,h3,?_,h4,q _ ⟨rfl⟩⟩
 have hl:=(Jt.mp h4).1
 have q:we ys ((i.toNat:Nat):Int)=some y:=j9 h4
 have ei:((i.toNat:Nat):Int)=i:=by omega +splitMinMax
 rw[ei] at q
 obtain⟨j,hj,hj2,_⟩:=mK q
 have:AN ys.length i=some i.toNat:=by unfold AN;rw[if_pos h2,if_pos (by omega)]
 exact(rV this).1
end
theorem oI {J:It}{n:Nat}{js:List Nat}{g:TG}{tc:TT}{te:TE}{σ:St}{H1:Hp}{Q:V->Hp->Prop}(N:Nat)(Pv:Nat->List V->Hp->Prop)(h0:Pv 0 [] H1)
  (go:∀i ys H (Nx:List V->Hp->Prop),i<N->Pv i ys H->(∀ys' H',Pv (i+1) ys' H'->Nx ys' H')->J.go i H/\ys.length<sizeLine /\
   ∀x H',J.yld i H x H'->g x (Ju n none++cW σ js) H' fun σ2 H2=>tc σ2 H2 fun b H3=>if b=true then te σ2 H3 fun y H4=>Nx (ys++[y]) H4 else Nx ys H3)
  (stop:∀ys H,Pv N ys H->J.stop N H/\∀p H',gX H p (.lst ys) H'->Q (.ref p) H'):zf J n js g tc te σ H1 fun ys H2=>∀p,H2 p=none->Q (.ref p) (upd H2 p (.lst ys)):=
 dh N Pv h0 go fun ys H h=>⟨(stop ys H h).1,fun p hp=>(stop ys H h).2 p _ ⟨hp,rfl⟩⟩
theorem cX {α:Type}{xs:List α}{i:Int}{v: α}(h0:0<=i)(h:xs[i.toNat]? = some v):we xs i=some v:=by
 have q:=j9 h
 have e:((i.toNat:Nat):Int)=i:=by omega
 rw[e] at q
 exact q
noncomputable def Ci:PyData->String
 | .none => "NoneType"
 | .bool _ => "bool"
 | .int _ => "int"
 | .str _ => "str"
 | .list _ => "list"
 | .tuple _ => "tuple"
 | .dict _ => "dict"
noncomputable def Om (d:PyData)(T:String):Bool:=Ci d==T||(Ci d == "bool" && T == "int")
theorem vk (K:Ja)(d:PyData):Yi K (.type (Ci d)) (.type "bool")=some (Om d "bool")/\Yi K (.type (Ci d)) (.type "int")=some (Om d "int")/\Yi K (.type (Ci d)) (.type "str")=some (Om d "str") /\
  Yi K (.type (Ci d)) (.type "list")=some (Om d "list")/\Yi K (.type (Ci d)) (.type "tuple")=some (Om d "tuple"):=by
 cases d<;>exact⟨rfl,rfl,rfl,rfl,rfl⟩
section
variable {X:Cx}
theorem yC {pins:List (Addr×Obj)}{σ:St}{H:Hp}{s:Shared}{x:V}{u:Value}{d:PyData}(I:Inv X pins σ H s)(rx:RelV x u)(h:Den X.K H d x):∃HH:Heap->Prop,PySem.W.KitX X.K u (.type (Ci d)) HH/\HH s.heap/\u ≠ .builtin "__main__.__loader__#opaque":=by
 cases d with
 | none=>unfold Den at h;subst h;cases rx;exact⟨_,PySem.W.kitx_none,True.intro,fun z=>nomatch z⟩
 | bool b=>unfold Den at h;subst h;cases rx;exact⟨_,PySem.W.kitx_bool,True.intro,fun z=>nomatch z⟩
 | int i=>unfold Den at h;subst h;obtain⟨t,rfl⟩:=rx;exact⟨_,PySem.W.kitx_int,True.intro,fun z=>nomatch z⟩
 | str y=>unfold Den at h;subst h;obtain⟨t,rfl⟩:=rx;exact⟨_,PySem.W.kitx_str,True.intro,fun z=>nomatch z⟩
 | list ds=>
  unfold Den at h
  refine ai.el (h) _ ?_
  rintro a vs rfl h2 _
  cases rx
  obtain⟨au,_,⟨o,n,e1,e2,_⟩,_⟩:=I.list h2
  exact⟨_,PySem.W.kitx_list,⟨o,e1,e2⟩,fun z=>nomatch z⟩
 | tuple ds=>
  unfold Den at h
  refine ai.el (h) _ ?_
  rintro a vs rfl h2 _
  cases rx
  obtain⟨au,_,⟨o,e1,e2,_⟩,_⟩:=I.tuple h2
  exact⟨_,PySem.W.kitx_tuple,⟨o,e1,e2⟩,fun z=>nomatch z⟩
 | dict _=>unfold Den at h;exact h.elim
theorem Ao:bE X (.builtin "isinstance") (fun xs H Q=>∃(x:V) (T:String) (d:PyData) (b:Bool),xs=[x,.ty T]/\Den X.K H d x/\Yi X.K (.type (Ci d)) (.type T)=some b/\Q (.bl b) H):=by
 intro pins s σ H xs us Q I r h
 refine ai.el (h) _ ?_
 rintro x T d b rfl hd e q
 refine ai.el (vals2 r) _ ?_
 rintro u w' rfl r1 r2
 cases r2
 refine ai.el (yC I r1 hd) _ ?_
 rintro HH Z hh hx
 exact U1 Z I.je hh e hx fun tk=>⟨.bl b,H,I.tok _,rfl,q⟩
theorem wk:bE X (.builtin "isinstance") (fun xs H Q=>∃(x:V) (p:Addr) (Ts:List String) (d:PyData) (b:Bool),xs=[x,.ref p]/\H p=some (.tup (Ts.map V.ty))/\Den X.K H d x/\PySem.W.kitAny X.K (.type (Ci d)) (Ts.map Value.type)=some b/\Q (.bl b) H):=by
 intro pins s σ H xs us Q I r h
 refine ai.el (h) _ ?_
 rintro x p Ts d b rfl hp hd e q
 refine ai.el (vals2 r) _ ?_
 rintro u w' rfl r1 r2
 cases r2
 refine ai.el (yC I r1 hd) _ ?_
 rintro HH Z hh hx
 obtain⟨hz,au,rv,o,h1,nU,h2,n,h3⟩:=(show bz X.prog X.w H s.heap p (.tup (Ts.map V.ty)) from I.bC p _ hp)
 have ei:au=Ts.map Value.type:=by
  clear e hp h3 h2 h1 nU hz
  induction Ts generalizing au with
  | nil=>cases rv;rfl
  | cons T Ts ih=>
   cases rv with
   | cons q1 q2=>cases q1;rw[ih _ q2];rfl
 subst ei
 obtain⟨cls,dd,data,sl⟩:=o
 simp only at h2 h3
 subst h2 h3
 exact PySem.W.kia_tup Z I.je hh h1 e hx fun tk=>⟨.bl b,H,I.tok _,rfl,q⟩
def Sb (K:Ja):List V->Hp->VK->Prop:=fun xs H Q=>(∃(x:V) (T:String) (d:PyData) (b:Bool),xs=[x,.ty T]/\Den K H d x/\Yi K (.type (Ci d)) (.type T)=some b/\Q (.bl b) H) ∨
 ∃x T t b,xs=[x,.ty T]/\kS K H x t/\Yi K t (.type T)=some b/\Q (.bl b) H
theorem ip (K:Ja)(hK:X.K=K:=by rfl):bE X (.builtin "isinstance") (Sb K):=by subst hK;exact Ao.or D9
def Ph (K:Ja):List V->Hp->VK->Prop:=fun xs H Q=>∃(x:V) (p:Addr) (Ts:List String) (d:PyData) (b:Bool),xs=[x,.ref p]/\H p=some (.tup (Ts.map V.ty))/\Den K H d x/\PySem.W.kitAny K (.type (Ci d)) (Ts.map Value.type)=some b/\Q (.bl b) H
theorem N0 (K:Ja)(hK:X.K=K:=by rfl):bE X (.builtin "isinstance") (Ph K):=by subst hK;exact wk
end
noncomputable def UH (k:Bool):String:=if k then "tuple" else "list"
noncomputable def Ec (k:Bool):String:=if k then "tuple_iterator" else "list_iterator"
def dP (k:Bool)(h:Heap)(a:Addr)(au:Array Value):Prop:=∃o,h.get? a=some o/\o.cls = .type (UH k)/\∃n,o.data = .seq au n
def fO (k:Bool)(h:Heap)(it a:Addr)(i:Nat):Prop:=∃o,h.get? it=some o/\o.cls = .type (Ec k)/\o.data = .fields #[.ref a,.int i 0]
theorem dP.at {k:Bool}{h h':Heap}{a:Addr}{au:Array Value}(x:dP k h a au)(e:∀o,h.get? a=some o->h'.get? a=some o):dP k h' a au:=let ⟨o,ho,r⟩:=x; ⟨o,e _ ho,r⟩
theorem fO.at {k:Bool}{h h':Heap}{it a:Addr}{i:Nat}(x:fO k h it a i)(e:∀o,h.get? it=some o->h'.get? it=some o):fO k h' it a i:=let ⟨o,ho,r⟩:=x; ⟨o,e _ ho,r⟩
theorem dP.lt {k:Bool}{h:Heap}{a:Addr}{au:Array Value}(x:dP k h a au):a<h.objs.size:=let ⟨_,e,_⟩:=x;Jf e
theorem fO.lt {k:Bool}{h:Heap}{it a:Addr}{i:Nat}(x:fO k h it a i):it<h.objs.size:=let ⟨_,e,_⟩:=x;Jf e
section
variable {prog:Program}{w:World}{A:Around}{E:Value->Shared->Prop}{s:Shared}{k:Bool}{it a:Addr}{i:Nat}{au:Array Value}
theorem oK {x:Value}{Q:Value->Shared->Prop}(h1:fO k s.heap it a i)(h2:dP k s.heap a au)(hx:au[i]? = some x)
  (q:∀h',fO k h' it a (i+1)->Uz it s.heap h'->Q x { s with heap:=h' }):wpAny (model prog w) A (Builtin.SmallTypes.nextOf (.ref it)) Q E s:=by
 cases k with
 | false=>exact wpAny_nextOf_list_item h1 h2 hx q
 | true=>
  obtain⟨o,ho,hc,hd⟩:=h1
  obtain⟨ol,hol,_,nl,hdl⟩:=h2
  have hT:s.TypeIs (.ref it) "tuple_iterator":=⟨o,ho,hc⟩
  unfold Builtin.SmallTypes.nextOf
  refine wpAny_bind (wpAny_callSpecial?_slot (name:=Str.ofString "__next__") hT F.slot_tuple_iterator_next (wpAny_call_entry F.slot_tuple_iterator_next hT F.entry_tuple_iterator_next ?_ (F.args_tuple_iterator_next_1 _)))
  change wpAny _ _ (Bind.bind (field (.ref it) 0) _) _ _ s
  refine wpAny_bind (wpAny_field ho hd (x := .ref a) rfl ?_)
  rw[if_neg (by intro z;cases z)]
  refine wpAny_bind (wpAny_field ho hd (x := .int i 0) rfl (wpAny_bind (wpAny_seqItems hol hdl ?_)))
  simp only[Yv,hx]
  refine wpAny_bind (wpAny_setField ho hd (by simp) (wpAny_pure ⟨x,rfl,wpAny_pure (q _ ⟨_,J3 _ ho (Obj.isFreed_of_fields (Obj.data_mapFields hd _)),(Obj.cls_mapFields ..).trans hc,?_⟩ (Uz.update ..))⟩))
  rw[Obj.data_mapFields hd]
  simp[rawInt]
theorem ud {Q:Value->Shared->Prop}(hh:A.handled=none)(h1:fO k s.heap it a i)(h2:dP k s.heap a au)(hx:au[i]? = none)
  (q:∀h' e,Heap.ExtBut it s.heap h'->(∃o,h'.get? e=some o/\o.cls = .type "StopIteration")->E (.ref e) { s with heap:=h' }):wpAny (model prog w) A (Builtin.SmallTypes.nextOf (.ref it)) Q E s:=by
 cases k with
 | false=>exact wpAny_nextOf_list_end hh h1 h2 hx q
 | true=>
  obtain⟨o,ho,hc,hd⟩:=h1
  obtain⟨ol,hol,_,nl,hdl⟩:=h2
  have hT:s.TypeIs (.ref it) "tuple_iterator":=⟨o,ho,hc⟩
  unfold Builtin.SmallTypes.nextOf
  refine wpAny_bind (wpAny_callSpecial?_slot (name:=Str.ofString "__next__") hT F.slot_tuple_iterator_next (wpAny_call_entry F.slot_tuple_iterator_next hT F.entry_tuple_iterator_next ?_ (F.args_tuple_iterator_next_1 _)))
  change wpAny _ _ (Bind.bind (field (.ref it) 0) _) _ _ s
  refine wpAny_bind (wpAny_field ho hd (x := .ref a) rfl ?_)
  rw[if_neg (by intro z;cases z)]
  refine wpAny_bind (wpAny_field ho hd (x := .int i 0) rfl (wpAny_bind (wpAny_seqItems hol hdl ?_)))
  simp only[Yv,hx]
  refine wpAny_bind (wpAny_rule (wpAny_bind (wpAny_setField ho hd (by simp) (wpAny_bind ?_))))
  simp only[newExc,newTuple]
  refine wpAny_bind (wpAny_newObj_type ?_ (by size_fits))
  refine wpAny_bind (m:=firstArgMember _ _) (wpAny_of_eq (a:=Value.none) (by first|rfl|(simp only[firstArgMember];rfl)) (wpAny_newObj_type ?_ (by size_fits)))
  simp only[raiseNew]
  refine wpAny_bind (wpAny_handled ?_)
  rw[show A.in1.handled=none from hh]
  exact wpAny_bind (wpAny_pure (wpAny_throw (q _ _ (((Uz.update ..).extBut.push _).push _) ⟨_,Jk _ rfl,rfl⟩)))
end
structure uo (k1 k2:Bool)(z TI TO i1 i2 l1 l2:Addr)(i:Nat)(h:Heap):Prop where
 zp:IsZip h z TI TO .none
 ti:IsPair h TI (.ref i1) (.ref i2)
 to:∃a b,IsPair h TO a b
 it1:fO k1 h i1 l1 i
 it2:fO k2 h i2 l2 i
section
variable {prog:Program}{w:World}{A:Around}{E:Value->Shared->Prop}{s:Shared}{k1 k2:Bool}{z TI TO i1 i2 l1 l2:Addr}{i:Nat}{xs ys:Array Value}
abbrev KB (z TO i1 i2:Addr)(b:Addr):Prop:=b=z∨b=TO∨b=i1∨b=i2
theorem Br {x y:Value}{Q:Option Value->Shared->Prop}(D:ZipApart z TI TO i1 i2 l1 l2)(st:uo k1 k2 z TI TO i1 i2 l1 l2 i s.heap)(pU:dP k1 s.heap l1 xs)(u3:dP k2 s.heap l2 ys)(hx:xs[i]? = some x)(hy:ys[i]? = some y)
  (q:∀h',IsZip h' z TI TO (rawInt s.heap.objs.size)->IsPair h' TO x y->fO k1 h' i1 l1 (i+1)->fO k2 h' i2 l2 (i+1)->IsPair h' s.heap.objs.size x y->Keeps s.heap h' (KB z TO i1 i2)->Q (some (.ref s.heap.objs.size)) { s with heap:=h' }) :
  wpAny (model prog w) A (pyNext (.ref z)) Q E s:=by
 obtain⟨hz,oP,⟨a,b,wa⟩,h1,h2⟩:=st
 have hT:s.TypeIs (.ref z) "zip":=⟨_,hz,rfl⟩
 unfold pyNext
 refine wpAny_bind (wpAny_attempt (wpAny_callSpecial?_slot (name:=Str.ofString "__next__") hT F.slot_zip_next (wpAny_call_entry F.slot_zip_next hT F.entry_zip_next ?_ (F.args_zip_next_1 _))))
 change wpAny _ _ (Bind.bind (field (.ref z) 2) _) _ _ _
 refine wpAny_bind (wpAny_field hz rfl (x := .bool false) rfl ?_)
 change wpAny _ _ (Bind.bind (field (.ref z) 3) _) _ _ _
 refine wpAny_bind (wpAny_field hz rfl (x := .ref TI) rfl (wpAny_bind (wpAny_seqItems oP rfl ?_)))
 change wpAny _ _ (Bind.bind (Builtin.SmallTypes.ownedTupleIsFree (.ref z)) _) _ _ _
 refine wpAny_bind ?_
 unfold Builtin.SmallTypes.ownedTupleIsFree
 refine wpAny_bind (wpAny_field hz rfl (x := .none) rfl (wpAny_pure ?_))
 simp only[if_true]
 refine wpAny_bind (wpAny_rule (wpAny_bind (wpAny_field hz rfl (x := .ref TO) rfl (wpAny_bind (wpAny_setField_rec hz (by simp) fun g1 z1 e1=>wpAny_bind ?_)))))
 simp only[List.zipIdx_cons,List.zipIdx_nil,Yn,Wa]
 refine wpAny_bind (wpAny_bind (wpAny_onRaise ?_))
 change wpAny _ _ (Bind.bind (Builtin.SmallTypes.nextOf (.ref i1)) _) _ _ _
 refine wpAny_bind (oK (h1.at fun o e=>e1.extBut _ _ D.i1z e) (pU.at fun o e=>e1.extBut _ _ D.l1z e) hx fun g2 it1 e2=>wpAny_pure ?_)
 have to2:IsPair g2 TO a b:=e2.extBut _ _ D.TOi1 (e1.extBut _ _ D.TOz wa)
 refine wpAny_bind (wpAny_seqItems to2 rfl (wpAny_bind (wpAny_updateSeq_pair to2 fun g3 to3 e3=>wpAny_bind (wpAny_letGo (wpAny_pure ?_)))))
 have to3:IsPair g3 TO x b:=to3
 have Bz:Keeps s.heap g3 (fun c=>c=z∨c=i1∨c=TO):=fun c o nc e=>e3.extBut _ _ (fun q=>nc (.inr (.inr q))) (e2.extBut _ _ (fun q=>nc (.inr (.inl q))) (e1.extBut _ _ (fun q=>nc (.inl q)) e))
 refine wpAny_bind (wpAny_bind (wpAny_onRaise ?_))
 change wpAny _ _ (Bind.bind (Builtin.SmallTypes.nextOf (.ref i2)) _) _ _ _
 refine wpAny_bind (oK (h2.at fun o e=>Bz _ _ (fun q=>q.elim D.i2z fun q=>q.elim D.i12.symm D.TOi2.symm) e) (u3.at fun o e=>Bz _ _ (fun q=>q.elim D.l2z fun q=>q.elim D.l2i1 D.l2TO) e) hy fun g4 it2 e4=>wpAny_pure ?_)
 have Na:IsPair g4 TO x b:=e4.extBut _ _ D.TOi2 to3
 refine wpAny_bind (wpAny_seqItems Na rfl (wpAny_bind (wpAny_updateSeq_pair Na fun g5 Fx e5=>wpAny_bind (wpAny_letGo (wpAny_pure (wpAny_pure ?_))))))
 have Fx:IsPair g5 TO x y:=Fx
 refine wpAny_bind (wpAny_seqItems Fx rfl (wpAny_bind (wpAny_newTuple ?_)))
 have hsz:g5.objs.size=s.heap.objs.size:=by rw[e5.1,e4.1,e3.1,e2.1,e1.1]
 have z5:IsZip g5 z TI TO .ellipsis:=e5.extBut _ _ D.TOz.symm (e4.extBut _ _ D.i2z.symm (e3.extBut _ _ D.TOz.symm (e2.extBut _ _ D.i1z.symm z1)))
 have k5:Keeps s.heap g5 (KB z TO i1 i2):=fun c o nc e=>e5.extBut _ _ (fun q=>nc (.inr (.inl q))) (e4.extBut _ _ (fun q=>nc (.inr (.inr (.inr q)))) (Bz c o (fun q=>q.elim (fun q=>nc (.inl q)) fun q=>q.elim (fun q=>nc (.inr (.inr (.inl q)))) fun q=>nc (.inr (.inl q))) e))
 have Kb:fO k1 g5 i1 l1 (i+1):=it1.at fun o e=>e5.extBut _ _ D.TOi1.symm (e4.extBut _ _ D.i12 (e3.extBut _ _ D.TOi1.symm e))
 have Ke:fO k2 g5 i2 l2 (i+1):=it2.at fun o e=>e5.extBut _ _ D.TOi2.symm e
 have Py:z<g5.objs.size:=Jf z5
 change wpAny _ _ (Bind.bind (Builtin.SmallTypes.ownedTupleHandOut (.ref z) (.ref g5.objs.size)) _) _ _ _
 refine wpAny_bind ?_
 unfold Builtin.SmallTypes.ownedTupleHandOut
 have z6:IsZip (g5.push { cls := .type "tuple",data := .seq #[x,y] }) z TI TO .ellipsis:=Jb _ z5
 refine wpAny_bind (wpAny_setField_rec z6 (by simp) fun g7 z7 e7 =>?_)
 have z7:IsZip g7 z TI TO (rawInt g5.objs.size):=z7
 refine wpAny_setField_rec z7 (by simp) fun g8 z8 e8=>wpAny_pure ⟨_,rfl,wpAny_pure ?_⟩
 have up:∀c o,c≠z->g5.get? c=some o->g8.get? c=some o:=fun c o c1 e=>e8.extBut _ _ c1 (e7.extBut _ _ c1 (Jb _ e))
 have tp:IsPair g8 g5.objs.size x y:=e8.extBut _ _ (Uc Py) (e7.extBut _ _ (Uc Py) (Jk _ rfl))
 have z8:IsZip g8 z TI TO (rawInt g5.objs.size):=z8
 show Q (some (.ref g5.objs.size)) _
 rw[hsz] at z8 tp ⊢
 exact q g8 z8 (up _ _ D.TOz Fx) (Kb.at fun o e=>up _ o D.i1z e) (Ke.at fun o e=>up _ o D.i2z e) tp fun c o nc e=>up c o (fun q=>nc (.inl q)) (k5 c o nc e)
theorem BN {Q:Option Value->Shared->Prop}(hh:A.handled=none)(D:ZipApart z TI TO i1 i2 l1 l2)(st:uo k1 k2 z TI TO i1 i2 l1 l2 i s.heap)(pU:dP k1 s.heap l1 xs)(u3:dP k2 s.heap l2 ys)(Rf:xs[i]? = none∨ys[i]? = none)
  (q:∀h',Keeps s.heap h' (KB z TO i1 i2)->Q none { s with heap:=h' }):wpAny (model prog w) A (pyNext (.ref z)) Q E s:=by
 obtain⟨hz,oP,⟨a,b,wa⟩,h1,h2⟩:=st
 have hT:s.TypeIs (.ref z) "zip":=⟨_,hz,rfl⟩
 unfold pyNext
 refine wpAny_bind (wpAny_attempt (wpAny_callSpecial?_slot (name:=Str.ofString "__next__") hT F.slot_zip_next (wpAny_call_entry F.slot_zip_next hT F.entry_zip_next ?_ (F.args_zip_next_1 _))))
 change wpAny _ _ (Bind.bind (field (.ref z) 2) _) _ _ _
 refine wpAny_bind (wpAny_field hz rfl (x := .bool false) rfl ?_)
 change wpAny _ _ (Bind.bind (field (.ref z) 3) _) _ _ _
 refine wpAny_bind (wpAny_field hz rfl (x := .ref TI) rfl (wpAny_bind (wpAny_seqItems oP rfl ?_)))
 change wpAny _ _ (Bind.bind (Builtin.SmallTypes.ownedTupleIsFree (.ref z)) _) _ _ _
 refine wpAny_bind ?_
 unfold Builtin.SmallTypes.ownedTupleIsFree
 refine wpAny_bind (wpAny_field hz rfl (x := .none) rfl (wpAny_pure ?_))
 simp only[if_true]
 refine wpAny_bind (wpAny_rule (wpAny_bind (wpAny_field hz rfl (x := .ref TO) rfl (wpAny_bind (wpAny_setField_rec hz (by simp) fun g1 z1 e1=>wpAny_bind ?_)))))
 have z1:IsZip g1 z TI TO .ellipsis:=z1
 simp only[List.zipIdx_cons,List.zipIdx_nil,Yn,Wa]
 refine wpAny_bind (wpAny_bind (wpAny_onRaise ?_))
 change wpAny _ _ (Bind.bind (Builtin.SmallTypes.nextOf (.ref i1)) _) _ _ _
 cases hx:xs[i]? with
 | none=>
  refine wpAny_bind (ud hh (h1.at fun o e=>e1.extBut _ _ D.i1z e) (pU.at fun o e=>e1.extBut _ _ D.l1z e) hx fun g2 e e2 oe =>?_)
  refine ai.el (oe) _ ?_
  rintro o ho hc
  have z2:IsZip g2 z TI TO .ellipsis:=e2 _ _ D.i1z.symm z1
  have ez:e≠z:=fun q=>by subst q;rw[z2] at ho;cases ho;simp at hc
  refine wpAny_setField_rec z2 (by simp) fun g3 _ e3 =>?_
  refine wpAny_bind (wpAny_isInstance (T := "StopIteration") (b:=true) ⟨o,e3.extBut _ _ ez ho,hc⟩ isSubtype_stop (wpAny_pure (q g3 fun c o nc h =>?_)))
  exact e3.extBut _ _ (fun q=>nc (.inl q)) (e2 _ _ (fun q=>nc (.inr (.inr (.inl q)))) (e1.extBut _ _ (fun q=>nc (.inl q)) h))
 | some x=>
  have hy:ys[i]? = none:=Rf.resolve_left (by rw[hx];exact fun z=>nomatch z)
  refine wpAny_bind (oK (h1.at fun o e=>e1.extBut _ _ D.i1z e) (pU.at fun o e=>e1.extBut _ _ D.l1z e) hx fun g2 it1 e2=>wpAny_pure ?_)
  have to2:IsPair g2 TO a b:=e2.extBut _ _ D.TOi1 (e1.extBut _ _ D.TOz wa)
  refine wpAny_bind (wpAny_seqItems to2 rfl (wpAny_bind (wpAny_updateSeq_pair to2 fun g3 to3 e3=>wpAny_bind (wpAny_letGo (wpAny_pure ?_)))))
  have Bz:Keeps s.heap g3 (fun c=>c=z∨c=i1∨c=TO):=fun c o nc e=>e3.extBut _ _ (fun q=>nc (.inr (.inr q))) (e2.extBut _ _ (fun q=>nc (.inr (.inl q))) (e1.extBut _ _ (fun q=>nc (.inl q)) e))
  refine wpAny_bind (wpAny_bind (wpAny_onRaise ?_))
  change wpAny _ _ (Bind.bind (Builtin.SmallTypes.nextOf (.ref i2)) _) _ _ _
  refine wpAny_bind (ud hh (h2.at fun o e=>Bz _ _ (fun q=>q.elim D.i2z fun q=>q.elim D.i12.symm D.TOi2.symm) e) (u3.at fun o e=>Bz _ _ (fun q=>q.elim D.l2z fun q=>q.elim D.l2i1 D.l2TO) e) hy fun g4 e e4 oe =>?_)
  refine ai.el (oe) _ ?_
  rintro o ho hc
  have z4:IsZip g4 z TI TO .ellipsis:=e4 _ _ D.i2z.symm (e3.extBut _ _ D.TOz.symm (e2.extBut _ _ D.i1z.symm z1))
  have ez:e≠z:=fun q=>by subst q;rw[z4] at ho;cases ho;simp at hc
  refine wpAny_setField_rec z4 (by simp) fun g5 _ e5 =>?_
  refine wpAny_bind (wpAny_isInstance (T := "StopIteration") (b:=true) ⟨o,e5.extBut _ _ ez ho,hc⟩ isSubtype_stop (wpAny_pure (q g5 fun c o nc h =>?_)))
  exact e5.extBut _ _ (fun q=>nc (.inl q)) (e4 _ _ (fun q=>nc (.inr (.inr (.inr q)))) (Bz c o (fun q=>q.elim (fun q=>nc (.inl q)) fun q=>q.elim (fun q=>nc (.inr (.inr (.inl q)))) fun q=>nc (.inr (.inl q))) h))
theorem uH {k:Bool}{a:Addr}{au:Array Value}{Q:Value->Shared->Prop}(h:dP k s.heap a au)(q:Q (.ref s.heap.objs.size) { s with heap:=s.heap.push { cls := .type (Ec k),data := .fields #[.ref a,.int 0 0] } }):wpAny (model prog w) A (pyIter (.ref a)) Q E s:=by
 cases k with
 | false=>exact wpAny_pyIter_list h q
 | true=>exact wpAny_pyIter_tuple h q
end
noncomputable abbrev Ef (k:Bool)(a:Addr):Obj:={ cls := .type (Ec k),data := .fields #[.ref a,.int 0 0] }
noncomputable abbrev Qy (k1 k2:Bool)(h:Heap)(a b:Addr):Heap:=((((h.push (Ef k1 a)).push (Ef k2 b)).push { cls := .type "tuple",data := .seq #[.ref h.objs.size,.ref (h.objs.size+1)] }).push { cls := .type "tuple",data := .seq #[.none,.none] }).push
 { cls := .type "zip",data := .fields #[.none,.bool false,.bool false,.ref (h.objs.size+2),.ref (h.objs.size+3)] }
theorem DQ (k1 k2:Bool)(a b:Addr)(xs ys:Array Value):
  Meets (Builtin.«zip.__new__» ⟨[.type "zip",.ref a,.ref b],[]⟩) (fun _ R s=>dP k1 s.heap a xs/\dP k2 s.heap b ys/\R (.ok (.ret (.ref (s.heap.objs.size+4)))) { s with heap:=Qy k1 k2 s.heap a b }):=
 .of_wp fun prog w A R s h=>by
  obtain⟨hp,g,d,tk,os⟩:=s;obtain⟨pU,u3,h⟩:=h
  have dn:=sub_zip
  have XY:dP k1 (Shared.heap ⟨hp,g,d,tk,os⟩) a xs:=pU
  have Vq:dP k2 (Shared.heap ⟨hp.push (Ef k1 a),g,d,tk,os⟩) b ys:=u3.at fun o e=>Jb _ e
  have s1:(hp.push (Ef k1 a)).objs.size=hp.objs.size+1:=J8 ..
  wp_walk using uH XY,uH Vq
  refine⟨_,rfl,?_⟩
  simp only[J8] at h ⊢
  exact h
section
variable {prog:Program}{w:World}{A:Around}{E:Value->Shared->Prop}{s:Shared}
theorem AG {k1 k2:Bool}{a b:Addr}{xs ys:Array Value}{Q:Value->Shared->Prop}(h1:dP k1 s.heap a xs)(h2:dP k2 s.heap b ys)
  (q:∀h',uo k1 k2 (s.heap.objs.size+4) (s.heap.objs.size+2) (s.heap.objs.size+3) s.heap.objs.size (s.heap.objs.size+1) a b 0 h'->(∀c o,s.heap.get? c=some o->h'.get? c=some o)->Q (.ref (s.heap.objs.size+4)) { s with heap:=h' }) :
  wpAny (model prog w) A (call (.type "zip") [.ref a,.ref b]) Q E s:=by
 refine callType_new F.called_zip (by decide) (F.typeCall_zip_2 _ _) (F.newCall_zip_2 _ _) (fun obj=>F.args_object_init_3 obj _ _) F.entry_zip_new (DQ k1 k2 a b xs ys) ⟨h1,h2,?_⟩
 have up:∀{h:Heap} {c:Addr} {o:Obj} (p:Obj),h.get? c=some o->(h.push p).get? c=some o:=fun p e=>Jb p e
 have last:∀{h:Heap} {n:Nat} {p:Obj},h.objs.size=n->p.isFreed=false->(h.push p).get? n=some p:=fun e hf=>by rw[<-e];exact Jk _ hf
 have z1:(s.heap.push (Ef k1 a)).objs.size=s.heap.objs.size+1:=J8 ..
 have z2:((s.heap.push (Ef k1 a)).push (Ef k2 b)).objs.size=s.heap.objs.size+2:=by rw[J8,z1]
 have z3:(((s.heap.push (Ef k1 a)).push (Ef k2 b)).push { cls := .type "tuple",data := .seq #[.ref s.heap.objs.size,.ref (s.heap.objs.size+1)] }).objs.size=s.heap.objs.size+3:=by rw[J8,z2]
 have z4:((((s.heap.push (Ef k1 a)).push (Ef k2 b)).push { cls := .type "tuple",data := .seq #[.ref s.heap.objs.size,.ref (s.heap.objs.size+1)] }).push { cls := .type "tuple",data := .seq #[.none,.none] }).objs.size=s.heap.objs.size+4:=by rw[J8,z3]
 have st:uo k1 k2 (s.heap.objs.size+4) (s.heap.objs.size+2) (s.heap.objs.size+3) s.heap.objs.size (s.heap.objs.size+1) a b 0 (Qy k1 k2 s.heap a b):=
  ⟨last z4 rfl,up _ (up _ (last z2 rfl)),⟨.none,.none,up _ (last z3 rfl)⟩,⟨_,up _ (up _ (up _ (up _ (last rfl rfl)))),rfl,rfl⟩,⟨_,up _ (up _ (up _ (last z1 rfl))),rfl,rfl⟩⟩
 have kp:∀c o,s.heap.get? c=some o->(Qy k1 k2 s.heap a b).get? c=some o:=fun c o e=>up _ (up _ (up _ (up _ (up _ e))))
 have ob:(Qy k1 k2 s.heap a b).get? (s.heap.objs.size+4)=some _:=st.zp
 exact⟨⟨_,ob,rfl⟩,q _ st kp⟩
end
def ka (k:Bool)(K:Ja)(H:Hp)(a:Addr)(xs:List V):Prop:=if k=true then br K H a xs else bb K H a xs
theorem Inv.Ca {X:Cx}{pins:List (Addr×Obj)}{σ:St}{H:Hp}{s:Shared}{k:Bool}{a:Addr}{xs:List V}(I:Inv X pins σ H s)(h:ka k X.K H a xs):∃au:List Value,Vals xs au/\dP k s.heap a au.toArray/\xs.length<=sizeLine:=by
 cases k with
 | false=>
  obtain⟨au,r,⟨o,n,e1,e2,_,e4⟩,z⟩:=I.list h
  exact⟨au,r,⟨o,e1,e2,n,e4⟩,z⟩
 | true=>
  obtain⟨au,r,⟨o,e1,e2,n,e4⟩,z⟩:=I.tuple h
  exact⟨au,r,⟨o,e1,e2,n,e4⟩,z⟩
theorem Inv.tW {X:Cx}{pins:List (Addr×Obj)}{σ:St}{H:Hp}{s:Shared}{k:Bool}{a:Addr}{xs ys:List V}(I:Inv X pins σ H s)(h:ka k X.K H a xs)(h':ka k X.K H a ys):xs=ys:=by
 cases k with
 | false=>exact I.og h h'
 | true=>exact I.qV h h'
noncomputable def Ni (K:Ja)(k1 k2:Bool)(a b:Addr):It:=
 ⟨fun i H=>qi fun xs ys x y=>ka k1 K H a xs/\ka k2 K H b ys/\xs[i]? = some x/\ys[i]? = some y,
   fun i H v H'=>∃T,v = .ref T/\∀xs ys x y,ka k1 K H a xs->ka k2 K H b ys->xs[i]? = some x->ys[i]? = some y->gX H T (.tup [x,y]) H',
   fun i H=>dS fun xs ys=>ka k1 K H a xs/\ka k2 K H b ys/\(xs.length<=i∨ys.length<=i)⟩
theorem Au {P:Program}{w:World}{K:Ja}{elts:List Expr}{k:Nat}{tp:Pos}(k1 k2:Bool)(z TI TO i1 i2 l1 l2:Addr)(D:ZipApart z TI TO i1 i2 l1 l2):
  Turn P w K (.Tuple elts k tp) (Ni K k1 k2 l1 l2) [z,TI,TO,i1,i2] z (uo k1 k2 z TI TO i1 i2 l1 l2) where
 mem:=by simp
 obj:=fun i h st b hb=>by
  obtain⟨h1,h2,⟨_,_,h3⟩,⟨o4,h4,_,d4⟩,⟨o5,h5,_,d5⟩⟩:=st
  simp at hb
  rcases hb with rfl|rfl|rfl|rfl|rfl
  ·exact⟨_,h1,fun _ z=>nomatch z⟩
  ·exact⟨_,h2,fun _ z=>nomatch z⟩
  ·exact⟨_,h3,fun _ z=>nomatch z⟩
  ·exact⟨_,h4,fun v q=>by rw[d4] at q;cases q⟩
  ·exact⟨_,h5,fun v q=>by rw[d5] at q;cases q⟩
 keep:=fun i h h' st hk=>by
  obtain⟨h1,h2,⟨a,b,h3⟩,h4,h5⟩:=st
  exact⟨hk z (by simp) _ h1,hk TI (by simp) _ h2,⟨a,b,hk TO (by simp) _ h3⟩,h4.at fun o e=>hk i1 (by simp) o e,h5.at fun o e=>hk i2 (by simp) o e⟩
 item:=fun X hP hw hK hc i pins s σ H E I hf st go=>by
  subst hP hw hK
  obtain⟨xs,ys,x,y,q1,q2,e1,e2⟩:=go
  refine ai.el (I.Ca q1) _ ?_
  rintro its1 r1 p1 _
  refine ai.el (I.Ca q2) _ ?_
  rintro its2 r2 p2 _
  refine ai.el (nC r1 e1) _ ?_
  rintro u1 g1 ru1
  refine ai.el (nC r2 e2) _ ?_
  rintro u2 g2 ru2
  have hz:=st.zp
  have oP:=st.ti
  refine Br D st p1 p2 g1 g2 fun h' a1 a2 a3 a4 a5 a7=>⟨_,rfl,?_⟩
  refine wpAny_letOwnedTupleGo_zip a1 fun h'' b1 b2 =>?_
  have SH:s.heap.objs.size≠z:=j4 (Jf hz) (Je _)
  have WK:∀c∈[z,TO,i1,i2],dE X pins H c:=fun c hc=>hf c (by simp at hc ⊢;rcases hc with q|q|q|q<;>simp[q])
  have kp:∀c o,c∉[z,TO,i1,i2]->s.heap.get? c=some o->h''.get? c=some o:=fun c o hc e=>by
   simp only[Jv,Ue,or_false] at hc
   exact b2.extBut c o (fun q=>hc (.inl q)) (a7 c o hc e)
  have I1:Inv X pins σ H { s with heap:=h'',toks:=s.toks }:=I.iter WK kp
  have fT:dE X pins H s.heap.objs.size:=I.eB (Je _) (I.bC.fresh (Je _))
  have oT:h''.get? s.heap.objs.size=some { cls := .type "tuple",data := .seq #[u1,u2] }:=b2.extBut _ _ SH a5
  have I2:=I1.adopt (T:=s.heap.objs.size) (o := .tup [x,y]) fT I.sz ⟨by show 2<=sizeLine;decide,[u1,u2],.cons ru1 (.cons ru2 .nil),⟨_,oT,rfl,rfl,_,rfl⟩⟩
  refine⟨.ref s.heap.objs.size,_,I2,rfl,⟨_,rfl,fun xs' ys' x' y' q1' q2' e1' e2' =>?_⟩,⟨b1,b2.extBut _ _ D.TIz (a7 _ _ (fun q=>q.elim D.TIz fun q=>q.elim D.TITO fun q=>q.elim D.TIi1 D.TIi2) oP),⟨_,_,b2.extBut _ _ D.TOz a2⟩,a3.at fun o e=>b2.extBut _ _ D.i1z e,a4.at fun o e=>b2.extBut _ _ D.i2z e⟩,fun c hc =>?_⟩
  ·rw[I.tW q1' q1] at e1'
   rw[I.tW q2' q2] at e2'
   rw[e1] at e1';rw[e2] at e2';cases e1';cases e2'
   exact⟨fT.1,rfl⟩
  ·obtain⟨_,_,⟨_,_,wa⟩,h1,h2⟩:=st
   have Ck:c<s.heap.objs.size:=by
    simp at hc
    rcases hc with rfl|rfl|rfl|rfl|rfl
    ·exact Jf hz
    ·exact Jf oP
    ·exact Jf wa
    ·exact h1.lt
    ·exact h2.lt
   rw[ak (bR Ck (Je _))]
   exact(hf c hc).1
 done:=fun X hP hw hK hc i pins s σ H E I hf st stop=>by
  subst hP hw hK
  obtain⟨xs,ys,q1,q2,e⟩:=stop
  refine ai.el (I.Ca q1) _ ?_
  rintro its1 r1 p1 _
  refine ai.el (I.Ca q2) _ ?_
  rintro its2 r2 p2 _
  have Xr:=r1.length
  have Z7:=r2.length
  refine BN (I.ok.hd hc) D st p1 p2 ?_ fun h' kp=>⟨rfl,?_⟩
  ·rcases e with e|e
   ·exact .inl (by simp;omega)
   ·exact .inr (by simp;omega)
  ·refine I.iter (ch:=[z,TO,i1,i2]) (t':=s.toks) (fun c hc=>hf c (by simp at hc ⊢;rcases hc with q|q|q|q<;>simp[q])) fun c o hc e =>?_
   simp only[Jv,Ue,or_false] at hc
   exact kp c o hc e
 self:=fun A i s Q E st hQ=>wpAny_pyIter_zip st.zp hQ
section
variable {X:Cx}
def Pk (K:Ja)(ta:TA):TI:=fun σ H R=>ta σ H fun vs H1=>qi fun k1 k2 a b=>vs=[.ref a,.ref b]/\(∃xs,ka k1 K H1 a xs)/\(∃ys,ka k2 K H1 b ys)/\R (Ni K k1 k2 a b) H1
theorem rN (K:Ja){elts:List Expr}{k:Nat}{tp:Pos}{a b:Expr}{ta:TA}{p pos:Pos}(hg:Gl X "zip")(hm:X.mg "zip" = none)(ha:PA X [a,b] ta)(hb:bootBuiltins "zip" = some (.type "zip"):=by first|rfl|decide)
  (hs:starEach [a,b] X.env=[(false,eval a X.env),(false,eval b X.env)]:=by rfl) (yS:starEach [b] X.env=[(false,eval b X.env)]:=by rfl) (hK:X.K=K:=by rfl) :
  PI X (.Tuple elts k tp) (.Call (.Name "zip" p) [a,b] [] pos) (Pk K ta):=by
 subst hK
 intro pins s σ H R I h
 refine Call_ (dY I hg hm hb (PyProof.Rows.callWith_type1 (bg (ha s σ H _ I h) fun us s1 ⟨vs,H1,I1,r1,q1⟩=>?_) (by rw[hs,yS]) (by rw[yS];rfl)))
 obtain⟨k1,k2,l1,l2,e,⟨xs,q1⟩,⟨ys,q2⟩,q⟩:=q1
 subst e
 refine ai.el (vals2 r1) _ ?_
 rintro u w' rfl r1 r2
 cases r1;cases r2
 refine ai.el (I1.Ca q1) _ ?_
 rintro its1 rv1 p1 _
 refine ai.el (I1.Ca q2) _ ?_
 rintro its2 rv2 p2 _
 refine AG p1 p2 fun h' st hk=>wpAny_pyIter_zip st.zp ?_
 have I2:Inv X pins σ H1 { s1 with heap:=h' }:=I1.kept (t':=s1.toks) hk
 refine⟨_,_,_,_,H1,rfl,I2,Au k1 k2 _ _ _ _ _ _ _ (zipApart_new p1.lt p2.lt),st,fun c hc =>?_,q⟩
 have Ck:s1.heap.objs.size<=c:=by
  simp at hc
  rcases hc with rfl|rfl|rfl|rfl|rfl
  ·exact Ur _ _
  ·exact Ur _ _
  ·exact Ur _ _
  ·exact Je _
  ·exact Ur _ _
 exact I1.eB Ck (I1.bC.fresh Ck)
end
section
variable {X:Cx}{tg:Expr}
theorem kK (K:Ja){l:Expr}{tl:TE}(hl:PE X l tl)(hK:X.K=K:=by rfl):PI X tg l (Nk K tl):=by subst hK;exact Mb hl
end
theorem AR (n:Nat):sliceRange (sliceBounds none none (some (-1)) n).1 (sliceBounds none none (some (-1)) n).2.1 (sliceBounds none none (some (-1)) n).2.2=(Uy n).map fun k=>n-1-k:=by
 have e:=PyProof.Rows.picked_rev n
 rw[<-e]
 rfl
theorem CI {α β:Type}{f: α->Option β}{g: α -> β}:∀{l:List α},(∀k∈l,f k=some (g k))->l.filterMap f=l.map g
 | [],_=>rfl
 | a::l,h=>by
  rw[List.filterMap_cons_some (h a Jr),J0,CI fun k hk=>h k (Jo _ hk)]
theorem CW (au:List Value):slicePick au.toArray none none (some (-1))=au.reverse.toArray:=by
 unfold slicePick
 rw[AR,Js]
 congr 1
 apply List.ext_getElem?
 intro i
 rw[List.filterMap_map]
 have hm:∀k∈Uy au.length,((fun x=>au.toArray[x]?)∘fun k=>au.length-1-k) k=some (au.reverse.getD k .none):=fun k hk=>by
  have hk:=List.mem_range.mp hk
  simp only[Function.comp]
  rw[Uk,List.getElem?_reverse (by omega +splitMinMax)]
  rw[List.getElem?_toArray,Jd (by omega +splitMinMax)]
  rfl
 have e2:(Uy au.length).filterMap ((fun x=>au.toArray[x]?)∘fun k=>au.length-1-k)=(Uy au.length).map fun k=>au.reverse.getD k .none:=by
  exact CI hm
 rw[e2,Ji]
 by_cases hi:i<au.length
 ·rw[List.getElem?_range hi,Jd (by simpa using hi)]
  simp[List.getD,hi]
 ·rw[List.getElem?_eq_none (by simp;omega),List.getElem?_eq_none (by simp;omega)]
  rfl
section
variable {X:Cx}{e:Expr}{te:TE}{pos p2 p3 p4:Pos}{j:Nat}
def RO (K:Ja)(te:TE):TE:=fun σ H Q=>te σ H fun x H1=>dS fun a xs=>x = .ref a/\bb K H1 a xs/\∀p H',gX H1 p (.lst xs.reverse) H'->Q (.ref p) H'
theorem Vals.rev:∀{xs:List V} {us:List Value},Vals xs us->Vals xs.reverse us.reverse:=by
 intro xs us t
 induction t with
 | nil=>exact .nil
 | cons r _ ih=>
  rw[List.reverse_cons,List.reverse_cons]
  exact ih.append (.cons r .nil)
theorem Kc (K:Ja)(he:PE X e te)(hK:X.K=K:=by rfl):PE X (.Subscript e (.Slice none none (some (.UnaryOp .USub (.Constant (.int 1) j p4) p3)) p2) pos) (RO K te):=by
 subst hK
 intro pins s σ H Q I h
 refine Subscript_ (bg (he s σ H _ I h) fun v s1 hz_ =>?_)
 refine ai.el hz_ _ ?_
 clear hz_
 rintro x H1 I1 r1 q1
 obtain⟨a,xs,rfl,hx,q⟩:=q1
 cases r1
 refine wpAny_Slice ?_
 rw[evalPart_none]
 refine wpAny_pure ?_
 refine wpAny_pure ?_
 have hs:PE X (.UnaryOp .USub (.Constant (.int 1) j p4) p3) (Wc (rU fun i =>.int (-i)) (tC (.int 1))):=jt fX ah
 have hp:=cF hs s1 σ H1 (fun o H2=>o=some (-1)/\H2=H1) I1 ⟨1,rfl,-1,rfl,rfl,rfl⟩
 refine bg hp fun vs s3 hz_ =>?_
 refine ai.el hz_ _ ?_
 clear hz_
 rintro o H3 I3 ps eo eh
 subst eo eh
 have I4:Inv X pins σ H3 { s3 with heap:=s3.heap.push { cls := .type "slice",data := .fields #[.none,.none,vs] } }:=I3.kept (t':=s3.toks) fun b ob q=>Jb _ q
 obtain⟨au,r,ht,hz⟩:=I4.list hx
 have hlen:=r.length
 refine tail_any (ops:=[.ref a,.ref s3.heap.objs.size]) ht.isList.typeIs slot_list_getitem.lookup ?_ (by with_unfolding_all rfl)
 refine wpAny_getItem_list_slice (st:=some (-1)) ht.isList (Heap.IsSliceOf.new ..) .none .none ps (by decide) ?_ (by rw[Js];omega)
 rw[CW]
 refine⟨.ref _,_,I4.laid (t':=s3.toks) (o := .lst xs.reverse) (fun b ob q=>Jb _ q) (Je _) ?_,rfl,q _ _ ⟨I4.bC.fresh (Je _),rfl⟩⟩
 exact⟨by rw[List.length_reverse];exact hz,_,0,r.rev,Jk _ rfl⟩
end
section
variable {X:Cx}(K:Ja)
theorem Mn (hK:X.K=K:=by rfl):dR X (compareOp .In) (P4 K false):=by subst hK;exact BL
theorem Ku (hK:X.K=K:=by rfl):dR X (compareOp .NotIn) (P4 K true):=by subst hK;exact rn
theorem Di {elts:List Expr}{k:Nat}{tp:Pos}{a:Expr}{ta:TA}{p pos:Pos}(hg:Gl X "enumerate")(hm:X.mg "enumerate" = none)(ha:PA X [a] ta)(hb:bootBuiltins "enumerate" = some (.type "enumerate"):=by first|rfl|decide)(hs:starEach [a] X.env=[(false,eval a X.env)]:=by rfl)(hK:X.K=K:=by rfl):
  PI X (.Tuple elts k tp) (.Call (.Name "enumerate" p) [a] [] pos) (IC K ta):=by subst hK;exact yE hg hm ha hb hs
end
section
variable {prog:Program}{w:World}{A:Around}{R:Result->Shared->Prop}{s:Shared}
theorem vj {kx vx target iter:Expr}{ifs:List Expr}{scope:Scope}{pos:Pos}{it:Value}{D:Addr}{env:Env}(I:Nat->Shared->Prop)
  (turn:∀n s,I n s->wpAny (model prog w) A (pyNext it) (fun r s1=>match r with
   | none=>R (.ok .next) s1
   | some v=>wpAny (model prog w) A (letOwnedTupleGo target it v) (fun _ s1'=>wpAny (model prog w) A (assign target env v) (fun _ s2=>
     wpAny (model prog w) A (mH ifs env) (fun ok s3=>
      if ok=true then wpAny (model prog w) A (eval kx env) (fun kv s4=>wpAny (model prog w) A (eval vx env) (fun vv s5=>
       wpAny (model prog w) A (dictSet D kv vv) (fun _ s6=>∃m,m<n/\I m s6) lr s5) lr s4) lr s3
      else ∃m,m<n/\I m s3) lr s2) lr s1') lr s1) lr s)
  (n:Nat) (h:I n s):codeAny (model prog w) A (.compLoop (.DictComp kx vx [⟨target,iter,ifs,0⟩] scope pos) 0 it (.ref D) env) R s:=by
 refine codeAny_loop rfl I (fun n s hI=>(show wpAny _ A (Sem.onRaise (compTurn (.DictComp kx vx [⟨target,iter,ifs,0⟩] scope pos) 0 it (.ref D) env) (fun x=>do noteFrame x env;theTreesLotGoes x)) _ _ s from wpAny_noted ?_)) n h
 rw[compTurn_dict]
 refine wpAny_bind (wpAny_standAt (wpAny_bind (cp (bg (turn n s hI) fun r s1 h1 =>?_))))
 cases r with
 | none=>exact wpAny_pure h1
 | some v=>
  refine wpAny_bind (cp (bg h1 fun _ s1' Ib =>?_))
  refine wpAny_bind (cp (bg Ib fun _ s2 h2=>wpAny_bind (cp (bg h2 fun ok s3 h3 =>?_))))
  cases ok with
  | false=>exact wpAny_pure ⟨rfl,h3⟩
  | true=>
   exact wpAny_bind (wpAny_bind (cp (bg h3 fun kv s4 h4=>wpAny_bind (wpAny_holding (cp (bg h4 fun vv s5 h5=>wpAny_bind (wpAny_standAt (wpAny_holding (cp (bg h5 fun _ s6 h6=>wpAny_pure ⟨rfl,h6⟩))))))))))
end
section
variable {X:Cx}{pins:List (Addr×Obj)}{σ:St}{H:Hp}{s:Shared}{a:Addr}{y v:V}{u r:Value}{A:Around}{E:Value->Shared->Prop}
theorem BC {kvs:List (Key×V)}{k:Key}{Q:Unit->Shared->Prop}(I:Inv X pins σ H s)(e:H a=some (.dK kvs))(l:kvs.length<sizeLine)(ry:RelV (kV k) u)(rv:RelV v r)
  (h:∀s',Inv X pins σ (upd H a (.dK (putK kvs k v))) s'->Q () s'):wpAny (model X.prog X.w) A (dictSet a u r) Q E s:=by
 refine ai.el (yW I.bC e) _ ?_
 rintro z hd vs rel dd
 have hz:vs.length<=sizeLine:=by rw[<-rel.length];exact z
 have hl:(putK kvs k v).length<=sizeLine:=by have:=eN kvs k v;omega
 refine wpAny_dictSet_pairs (hsz:=hz) (mx ry) dd fun h' dd' hs=>h _ ?_
 have he:∃q,h'.get? a=some q:=let ⟨q,_,_,hq,_⟩:=dd'; ⟨q,hq⟩
 exact ko I (by rw[e];exact True.intro) hs he (xj hl hd (rel.put k rv) dd')
end
section
variable {X:Cx}{pins:List (Addr×Obj)}{σ:St}{H:Hp}{s:Shared}{scope:Scope}{Nc Fc:List Str}{js:List Nat}{cl:List (Str×Addr)}{C:Addr}{fp:List Addr}
theorem vR (I:Inv X pins σ H s)(c:fk X scope Nc Fc js)(dn:∀n c,cl.lookup n=some c->X.env.cells.lookup n=some c)(jg:∀y∈scope.names,y.2 = .free->∃c,cl.lookup y.1=some c)
  (hC:s.heap.objs.size<=C) (hf:∀b∈fp,dE X pins H b) (ho:∀b∈fp,∃o,s.heap.get? b=some o) {h1:Heap} {t1:Nat} {m:Str->Option Value}
  (hk:∀b o,s.heap.get? b=some o->h1.get? b=some o) (hm:h1.Ns C m) :
  Inv (j0 X Nc Fc scope cl C s H fp) [] (Ju Nc.length none++cW σ js) H { s with heap:=h1,toks:=t1 }:=by
 refine⟨oj I c dn jg hC hf ho,rfl,I.bare,Un.kept hk,⟨m,hm,fun i x v e1 e2 e3 =>?_⟩,fun x a e =>?_,I.bC.fresh hC,fun x a e=>I.freeC x a (dn x a e),fun p hp =>?_,I.bC.kept hk,?_⟩
 ·have e1:(Nc++Fc)[i]? = some x:=e1
  have e2:(Ju Nc.length none++cW σ js)[i]? = some (some v):=e2
  by_cases hi:i<Nc.length
  ·rw[Uj (by simpa using hi),Yc] at e2
   split at e2<;>cases e2
  ·rw[Ui (by omega)] at e1
   rw[Ui (by rw[Ul];omega),Ul] at e2
   refine ai.el (c.frees _ _ e1) _ ?_
   rintro oV j hj hN
   have hv: σ[j]? = some (some v):=by
    unfold cW at e2
    rw[Ji,hj] at e2
    have e2:some ((σ[j]?).join)=some (some v):=e2
    cases q: σ[j]? with
    | none=>rw[q] at e2;cases e2
    | some z=>rw[q] at e2;cases e2;rfl
   have kx:=c.free _ (bX oV) rfl
   refine ai.el (I.loc) _ ?_
   rintro m0 hn0 E6
   have NH:Mi X.env.scope x:=by
    rcases kx with k|k
    ·exact .inr (.inl k)
    ·exact .inr (.inr k)
   refine ai.el (E6 j x v hN hv NH) _ ?_
   rintro u ru lk
   refine⟨u,ru,.inr ⟨?_,?_⟩⟩
   ·rw[nj];exact eQ oV
   ·obtain⟨a,ha⟩:=jg _ (bX oV) rfl
    refine⟨a,ha,?_⟩
    rcases lk with ⟨k,_⟩|⟨_,a',ha',hcell⟩
    ·rcases kx with q|q<;>(rw[k] at q;cases q)
    ·have e:=dn _ _ ha
     dsimp only at e
     rw[ha'] at e;cases e
     exact hcell.keeps hk
 ·obtain⟨v,z⟩:=I.cell x a (dn x a e)
  exact⟨v,z.keeps hk⟩
 ·have hp:p∈([]:List (Addr×Obj)):=hp
  cases hp
 ·show(Ju Nc.length none++cW σ js).length=(Nc++Fc).length
  unfold cW
  rw[Jp,Jp,Ul,Jc,c.lens]
end
def IQ (J:It)(n:Nat)(js:List Nat)(g:TG)(tc:TT)(tk tv:TE)(σ:St)(D:Addr)(H1:Hp)(fin:Hp->Prop):Prop:=
 ∃W:Nat->Nat->Hp->Prop,(∃m,W 0 m H1)/\∀i m H,W i m H ->
  (J.stop i H/\fin H) ∨
  (J.go i H/\∀x H',J.yld i H x H'->g x (Ju n none++cW σ js) H' fun σ2 H2=>tc σ2 H2 fun b H3=>
   if b=true then tk σ2 H3 fun y H4=>tv σ2 H4 fun z H5=>dS fun kvs k=>H5 D=some (.dK kvs)/\y=kV k/\kvs.length<sizeLine/\∃m',m'<m/\W (i+1) m' (upd H5 D (.dK (putK kvs k z))) else ∃m',m'<m/\W (i+1) m' H3)
def C8 (wi:TI)(n:Nat)(js:List Nat)(g:TG)(tc:TT)(tk tv:TE):TE:=fun σ H Q=>wi σ H fun J H1=>∀D,H1 D=none->IQ J n js g tc tk tv σ D (upd H1 D (.dK [])) fun H2=>Q (.ref D) H2
theorem wY {X:Cx}{kx vx tg iter:Expr}{ifs:List Expr}{scope:Scope}{pos:Pos}{Nc Fc:List Str}{js:List Nat}{wi:TI}{g:TG}{tc:TT}{tk tv:TE}{use:Option (Value->Sem Unit)}{QV:Value->Shared->Prop}
  (eS:X.calm=true) (c:fk X scope Nc Fc js) (hi:PI X tg iter wi)
  (hg:∀cl C s H fp,PG (j0 X Nc Fc scope cl C s H fp) tg g) (AL:∀cl C s H fp,HS (j0 X Nc Fc scope cl C s H fp) ifs tc) (Hr:∀cl C s H fp,PE (j0 X Nc Fc scope cl C s H fp) kx tk) (Q9:∀cl C s H fp,PE (j0 X Nc Fc scope cl C s H fp) vx tv) (gk:Gk Nc.length g)
  {pins:List (Addr×Obj)} {s:Shared} {σ:St} {H:Hp} {fin:Addr->Hp->Prop} (I:Inv X pins σ H s)
  (h:wi σ H fun J H1=>∀D,H1 D=none->IQ J Nc.length js g tc tk tv σ D (upd H1 D (.dK [])) (fin D))
  (behind:∀(C D:Addr) (m:Str->Option Value) (H2:Hp) (s2:Shared),Inv X pins σ H2 s2->s2.heap.Ns C m->dE X pins H2 C->fin D H2->compPost (model X.prog X.w) X.A X.xe use QV (.ref D) C (.ok .next) s2)
  (hs:∀x,foldedSetIterable iter X.env x=pure x) :
  wpAny (model X.prog X.w) X.A (comprehension (.DictComp kx vx [⟨tg,iter,ifs,0⟩] scope pos) scope X.env (firstIterPos [⟨tg,iter,ifs,0⟩] pos) newDict false (eval iter X.env) use) QV X.xe s:=by
 obtain⟨cl,hclos,dn,jg⟩:=jY (scope:=scope) (env:=X.env) fun y hy hf=>I.ok.has y.1 (c.free y hy hf)
 refine wpAny_comprehension_free (use:=use) rfl hs hclos c.kind c.names ?_
 refine bg (hi s σ H _ I h) fun v s1 h1=>bg h1 fun MG s2 h2 =>?_
 obtain⟨it,fp,tn,J,H2,e,I2,T,eK,f2,all⟩:=h2
 subst e
 refine wpAny_newObj_type (wpAny_newFunctionEnv c.nocell (by intro y hy;simp at hy) (fun h1 hns1 hsb1 =>?_) c.kind)
 dsimp only at hns1 hsb1 ⊢
 have Hd:H2 s2.heap.objs.size=none:=I2.bC.fresh (Je _)
 have Ds:=I2.laid (a:=s2.heap.objs.size) (o := .dK []) (h':=s2.heap.push { cls := .type "dict",data := .dict #[] }) (t':=s2.toks) (fun _ _ q=>Jb _ q) (Je _) (uK s2.heap I2.big)
 obtain⟨W,⟨m0,w0⟩,turn⟩:=all _ Hd
 have NT:∀b∈fp,∃o,s2.heap.get? b=some o:=fun b hb=>let ⟨o,e,_⟩:=T.obj 0 _ eK b hb; ⟨o,e⟩
 have pL:∀b∈fp,b<s2.heap.objs.size:=fun b hb=>let ⟨o,e⟩:=NT b hb;Jf e
 generalize hG:s2.heap.push { cls := .type "dict",dict:=none,data := .dict #[] } = G at hns1 hsb1 Ds ⊢
 have toG:∀b o,s2.heap.get? b=some o->G.get? b=some o:=fun b o e=>hG▸Jb _ e
 have hC:G.objs.size=s2.heap.objs.size+1:=by rw[<-hG,J8]
 have old:∀b o,G.get? b=some o->h1.get? b=some o:=fun b o e=>
  hsb1.extBut b o (bR (Jf e) (Je _)) (Jb _ e)
 let D:Addr:=s2.heap.objs.size
 let s2':Shared:={ s2 with heap:=G,toks:=s2.toks }
 let H2':Hp:=upd H2 D (.dK [])
 have Kj:∀b∈fp,dE X pins H2' b:=fun b hb=>by
  obtain⟨a1,a2⟩:=f2 b hb
  refine⟨?_,a2⟩
  show upd H2 D (.dK []) b=none
  rw[ak (Jm (pL b hb))];exact a1
 have fo:∀b∈fp,∃o,s2'.heap.get? b=some o:=fun b hb=>let ⟨o,e⟩:=NT b hb; ⟨o,toG b o e⟩
 have RD:∀b∈fp,b<G.objs.size:=fun b hb=>by have:=pL b hb;rw[hC];exact Nat.lt_succ_of_lt this
 let Xc:Cx:=j0 X Nc Fc scope cl G.objs.size s2' H2' fp
 have jH:∀{H':Hp},(∀b∈fp,H' b=none)->∀b∈fp,dE Xc [] H' b:=fun{H'} hn b hb=>by
  refine⟨hn b hb,?_,?_,.inl hb,fun x a e =>?_,fun p hq =>?_⟩
  ·exact bR (RD b hb) (Je _)
  ·exact(oj Ds c dn jg (Je _) Kj fo).exfs b hb
  ·exact(f2 b hb).2.2.2.2.1 x a (dn _ _ e)
  ·have q:p∈([]:List (Addr×Obj))++[]:=hq
   simp at q
 have loop:∀t1,codeAny (model X.prog X.w) X.A (.compLoop (.DictComp kx vx [⟨tg,iter,ifs,0⟩] scope pos) 0 (.ref it) (.ref s2.heap.objs.size) (compEnvC scope cl G.objs.size X.env))
   (compPost (model X.prog X.w) X.A X.xe use QV (.ref s2.heap.objs.size) G.objs.size) { s2 with heap:=h1,toks:=t1 }:=by
  intro t1
  refine vj (fun n s'=>∃i H',Inv Xc [] (Ju Nc.length none++cW σ js) H' s'/\tn i s'.heap/\(∀b∈fp,H' b=none)/\W i n H') ?_ m0
   ⟨0,H2',vR Ds c dn jg (Je _) Kj fo old hns1,T.keep _ _ _ eK (fun b hb o e=>old b o (toG b o e)),fun b hb=>(Kj b hb).1,w0⟩
  intro n s3
  refine ai.go ?_
  rintro i H3 I3 dv fr3 w3
  rcases turn i n H3 w3 with ⟨stop,qn⟩|⟨go,step⟩
  ·refine bg (T.done Xc rfl rfl rfl eS i _ s3 _ H3 lr I3 (jH fr3) dv stop) fun r s4 hz_ =>?_
   refine ai.el hz_ _ ?_
   clear hz_
   rintro hr I4
   subst hr
   show compPost _ _ _ _ _ _ _ _ _
   refine ai.el (I4.loc) _ ?_
   rintro mC hmC _
   have NA:H3 G.objs.size=none:=I4.free
   have u:Un (gm X.stack) fp H2' H3 G s4.heap:=I4.base
   have wc:∀b∈fp,(b∈X.ex∨X.s₀.heap.objs.size<=b)/\b≠X.env.locals/\(∀x c,X.env.cells.lookup x=some c->c≠b)/\∀p∈X.pn++pins,p.1≠b:=fun b hb=>
    ⟨(f2 b hb).2.2.2.1,(f2 b hb).2.1,(f2 b hb).2.2.2.2.1,(f2 b hb).2.2.2.2.2⟩
   have Nz:s4.os=s2'.os:=I4.os
   have J4:Inv X pins σ H3 s4:=Ds.De (H':=H3) Nz u I4.bC I4.bare wc
   exact behind G.objs.size D mC H3 s4 J4 hmC (Ds.eB (Je _) NA) qn
  ·refine bg (T.item Xc rfl rfl rfl eS i _ s3 _ H3 lr I3 (jH fr3) dv go) fun r s4 hz_ =>?_
   refine ai.el hz_ _ ?_
   clear hz_
   rintro u hr h4
   subst hr
   show wpAny _ _ (letOwnedTupleGo tg (.ref it) u) _ _ _
   refine bg h4 fun _ s5 hz_ =>?_
   refine ai.el hz_ _ ?_
   clear hz_
   rintro x H5 I5 r5 y5 cB fr5
   have L8:=I5.pinned (jH fr5) (T.obj _ _ cB)
   refine bg (hg cl G.objs.size s2' H2' fp s5 _ H5 x u _ L8 r5 (gk _ _ _ _ (step x H5 y5))) fun _ s6 hz_ =>?_
   refine ai.el hz_ _ ?_
   clear hz_
   rintro σ6 H6 I6 q6 kσ kl
   refine bg (AL cl G.objs.size s2' H2' fp s6 σ6 H6 _ I6 q6) fun b s7 hz_ =>?_
   refine ai.el hz_ _ ?_
   clear hz_
   rintro H7 I7 q7
   have later:∀{σ':St} {H':Hp} {s':Shared},Inv Xc ([]++fw fp s5.heap) σ' H' s'->tn (i+1) s'.heap/\∀b∈fp,H' b=none:=fun{σ' H' s'} Iz=>by
    refine⟨T.keep _ _ _ cB fun b hb o e=>(Iz.pin (b,o) (Jw _ (Jw _ (cK hb e)))).1,fun b hb =>?_⟩
    refine ai.el (T.obj _ _ cB b hb) _ ?_
    rintro o e d
    exact(Iz.pin (b,o) (Jw _ (Jw _ (cK hb e)))).2.1
   have back:∀{pl:List (Addr×Obj)} {H':Hp} {s':Shared},Inv Xc pl σ6 H' s'->Inv Xc pl (Ju Nc.length none++cW σ js) H' s':=fun{pl H' s'} Iz=>by
    refine Iz.weak (by rw[<-kl]) fun j v hj =>?_
    by_cases hn:j<Nc.length
    ·rw[Uj (by simpa using hn),Yc] at hj
     split at hj<;>cases hj
    ·rw[kσ j (by omega)];exact hj
   cases b with
   | false=>
    rw[if_neg Jl] at q7 ⊢
    refine ai.el (q7) _ ?_
    rintro m' Ab w7
    obtain⟨l1,l2⟩:=later I7
    exact⟨m',Ab,i+1,H7,back I7.eC,l1,l2,w7⟩
   | true=>
    rw[if_pos rfl] at q7 ⊢
    refine bg (Hr cl G.objs.size s2' H2' fp s7 σ6 H7 _ I7 q7) fun yv s8 hz_ =>?_
    refine ai.el hz_ _ ?_
    clear hz_
    rintro y H8 I8 r8 q8
    refine bg (Q9 cl G.objs.size s2' H2' fp s8 σ6 H8 _ I8 q8) fun zv s9 hz_ =>?_
    refine ai.el hz_ _ ?_
    clear hz_
    rintro z H9 I9 r9 q9
    refine ai.el (q9) _ ?_
    rintro kvs k eD ey hl m' Ab w9
    subst ey
    refine BC (X:=Xc) I9 eD hl r8 r9 fun DL I10 =>?_
    obtain⟨l1,l2⟩:=later I10
    exact⟨m',Ab,i+1,_,back I10.eC,l1,l2,w9⟩
 exact codeAny_compStart_dict (loop _) (T.self _ 0 _ _ _ (T.keep _ _ _ eK fun b hb o e=>old b o (toG b o e)) (loop _))
theorem vJ {X:Cx}{i:Nat}{y:Str}{kx vx tg iter:Expr}{ifs:List Expr}{scope:Scope}{pos pos' py:Pos}{Nc Fc:List Str}{js:List Nat}{wi:TI}{g:TG}{tc:TT}{tk tv:TE}(hN:X.N.Nodup)(hy:X.N[i]? = some y)(hl:Loc X.env.scope y)
  (eS:X.calm=true) (c:fk X scope Nc Fc js) (hi:PI X tg iter wi) (gk:Gk Nc.length g)
  (hg:∀cl C s H fp,PG (j0 X Nc Fc scope cl C s H fp) tg g) (AL:∀cl C s H fp,HS (j0 X Nc Fc scope cl C s H fp) ifs tc) (Hr:∀cl C s H fp,PE (j0 X Nc Fc scope cl C s H fp) kx tk) (Q9:∀cl C s H fp,PE (j0 X Nc Fc scope cl C s H fp) vx tv)
  (SN:swapsWith (.DictComp kx vx [⟨tg,iter,ifs,0⟩] scope pos) (some (.Name y py)) pos'.line X.env=pure true:=by rfl)
  (hs:∀x,foldedSetIterable iter X.env x=pure x:=by intro _;rfl)
  (hf:X.fn y=true∨X.env.scope.names.lookup y=some .local:=by first|exact .inl rfl|exact .inr rfl|assumption) :
  PS X (.Assign [.Name y py] (.DictComp kx vx [⟨tg,iter,ifs,0⟩] scope pos) pos') (Dh (C8 wi Nc.length js g tc tk tv) (md i)):=by
 intro pins s σ H E I h
 rw[exec_Assign_Name_used _ _ _ _ SN]
 refine wpAny_bind (wpAny_standAt (wpAny_bind ?_))
 show wpAny _ X.A (do let _ <-comprehension (.DictComp kx vx [⟨tg,iter,ifs,0⟩] scope pos) scope X.env _ newDict false (eval iter X.env) (some (assign (.Name y py) X.env))) _ _ s
 refine wpAny_bind (bg (wY (use:=some (assign (.Name y py) X.env)) (fin:=fun D H2=>md i (.ref D) σ H2 E.nx) (QV:=fun _ s'=>SP X pins E .next s') eS c hi hg AL Hr Q9 gk I h (fun C D m H2 s2 I2 hm hC q =>?_) hs) fun _ s' hq=>wpAny_pure (wpAny_pure hq))
 show wpAny _ _ (assign (.Name y py) X.env (.ref D)) _ _ s2
 refine wpAny_assign_Name (lH I2 hN hy hl (v := .ref D) rfl (fun s3 I3 hz_=>ai.el hz_ _ fun a hsa ha =>?_) hf)
 have E8:C≠a:=by
  rcases ha with e|e
  ·rw[e];exact hC.2.1
  ·exact fun z=>hC.2.2.2.2.1 _ _ e z.symm
 refine⟨m,hm.at' fun o e=>hsa.extBut _ o E8 e,fun h' hs' =>?_⟩
 exact⟨_,_,I3.turned (it:=C) (t':=s3.toks) (fun b o hb e=>hs'.extBut b o hb e) hC.1 hC.2.1 hC.2.2.2.1 hC.2.2.2.2.1 hC.2.2.2.2.2,q⟩
open PySem.W
def QM (h base:Heap)(e:Addr)(cls a0:Value)(dx:Option Addr)(fl:Value):Prop:=∃oe vs T oT ts,
 h.get? e=some oe/\oe.cls=cls/\oe.dict=dx/\oe.data = .fields vs/\vs[0]? = some a0/\vs[1]? = some (.ref T)/\base.get? T=none/\T≠e/\h.get? T=some oT/\oT.data = .fields ts/\ts[3]? = some fl
def pN (base:Heap)(l:List Env)(e:Addr)(cls a0:Value)(dx:Option Addr)(h:Heap):Prop:=base.StaysIn h/\base.get? e=none/\h.FunFrames base l/\QM h base e cls a0 dx .none
def Ig (base:Heap)(l:List Env)(e:Addr)(cls a0:Value)(dx:Option Addr)(L:Addr)(h:Heap):Prop:=base.StaysIn h/\base.get? e=none/\h.FunFrames base l/\QM h base e cls a0 dx (rawInt L)
section
variable {M:Model}{A:Around}{E:Value->Shared->Prop}{s:Shared}{base:Heap}{env:Env}{outer:List Env}{L e:Addr}{cls a0:Value}{dx:Option Addr}{Q:Unit->Shared->Prop}
theorem ph {oe:Obj}{vs:Array Value}{head:Value}{hn:Bool}(oV:A.frames=some (env::outer))(kF:s.heap.FunFrames base (env::outer))(hf:env.frame=some L)(he:s.heap.get? e=some oe)(fZ:base.StaysIn s.heap)(new:base.get? e=none)
  (hd:oe.data = .fields vs) (sz:1<vs.size) (h0:vs[0]? = some a0)
  (q:∀h',base.StaysIn h'->h'.FunFrames base (env::outer)->QM h' base e oe.cls a0 oe.dict (rawInt L)->s.heap.UpToSlots h'->Q () { s with heap:=h' }) :
  wpAny M A (do let a <-frameOf env;let pl <-entryPlaceOf L hn;let b <-EntryCells.newEntry head a .none (rawInt L) .none pl;setField (.ref e) 1 b) Q E s:=by
 have apart:e∉(env::outer).filterMap (·.frame):=fun m=>by
  obtain⟨_,o,ho,nf⟩:=kF.mem m
  rw[he] at ho;cases ho
  exact nf vs hd
 refine wpAny_bind (wpAny_frameOf_fun oV kF hf fun h1 so=>wpAny_bind (wpAny_entryPlaceOf fun pl isp =>?_))
 unfold EntryCells.newEntry newFields
 refine wpAny_bind (wpAny_newObj_type ?_ (isp.sizeOk5 _ _ _ _ _))
 obtain⟨tr,etr⟩:∃tr:Obj,tr={ cls := .type "traceback",dict:=none,data := .fields ([head,.ref L,.none,rawInt L,.none]++(if pl.isEmpty then Ju 6 Value.none else pl)).toArray }:=⟨_,rfl⟩
 rw[<-etr]
 have e1:h1.get? e=some oe:=(so.2.1 e apart).trans he
 have j1:base.StaysIn h1:=fun b o x=>(so.2.1 b fun m=>by rw[(kF.mem m).1] at x;cases x).trans (fZ b o x)
 have e2:(h1.push tr).get? e=some oe:=Jb _ e1
 refine wpAny_setField e2 hd sz (q _ ?_ ?_ ?_ ?_)
 all_goals have nT:h1.objs.size≠e:=Uc (Jf e1)
 all_goals have kp:∀b o,b≠e->h1.get? b=some o->((h1.push tr).update e (Obj.mapFields (·.setIfInBounds 1 (Value.ref h1.objs.size)))).get? b=some o:=fun b o nb x=>(J5 _ _ (Ne.symm nb)).trans (Jb _ x)
 all_goals have nr:∀b o,s.heap.get? b=some o->(∀ws,o.data ≠ .fields ws)->b≠e:=fun b o x nf z=>(by rw[z,he] at x;cases x;exact nf vs hd)
 ·exact fun b o x=>kp b o (fun z=>by rw[z,new] at x;cases x) (j1 b o x)
 ·refine kF.of_keeps fun b o x nf =>?_
  obtain⟨sl,hs⟩:=so.2.2 b o x
  exact⟨_,kp b _ (nr b o x nf) hs,rfl⟩
 ·have d3:=Obj.data_mapFields hd (·.setIfInBounds 1 (Value.ref h1.objs.size))
  have e3:=J3 (Obj.mapFields (·.setIfInBounds 1 (Value.ref h1.objs.size))) e2 (Obj.isFreed_of_fields d3)
  refine⟨_,_,h1.objs.size,tr,_,e3,Obj.cls_mapFields _ _,?_,d3,by rw[Array.getElem?_setIfInBounds_ne (by decide)];exact h0,by simp[sz],j1.fresh,nT,(J5 _ _ (Ne.symm nT)).trans (Jk h1 (by rw[etr];rfl)),by rw[etr],?_⟩
  ·obtain⟨c1,c2,c3,c4⟩:=oe
   cases c3<;>rfl
  ·first
    | (simp;done)
    | (rcases isp with rfl|⟨_,_,_,_,_,_,_,rfl⟩<;>simp)
 ·intro b o x nf
  obtain⟨sl,hs⟩:=so.2.2 b o x
  exact⟨sl,kp b _ (nr b o x nf) hs⟩
theorem yx {oe:Obj}{vs:Array Value}(oV:A.frames=some (env::outer))(kF:s.heap.FunFrames base (env::outer))(hf:env.frame=some L)(he:s.heap.get? e=some oe)(fZ:base.StaysIn s.heap)(new:base.get? e=none)
  (hd:oe.data = .fields vs) (h1:vs[1]? = some .none) (h0:vs[0]? = some a0) (q:∀h',Ig base (env::outer) e oe.cls a0 oe.dict L h'->s.heap.UpToSlots h'->Q () { s with heap:=h' }):wpAny M A (noteFrame (.ref e) env) Q E s:=by
 unfold noteFrame
 simp only[hf]
 refine wpAny_bind (wpAny_field he hd h1 ?_)
 rw[if_neg (by decide)]
 exact ph oV kF hf he fZ new hd (Uv.mp h1).1 h0 fun h' k1 k2 k3 k4=>q h' ⟨k1,new,k2,k3⟩ k4
theorem slot_set {T:Addr}{oT:Obj}{ts:Array Value}{x:Value}(hT:s.heap.get? T=some oT)(dT:oT.data = .fields ts)(nT:base.get? T=none)(fZ:base.StaysIn s.heap){l:List Env}(kF:s.heap.FunFrames base l):
  (∀b,b≠T->(s.heap.update T (Obj.mapFields (·.setIfInBounds 3 x))).get? b=s.heap.get? b)/\base.StaysIn (s.heap.update T (Obj.mapFields (·.setIfInBounds 3 x)))/\(s.heap.update T (Obj.mapFields (·.setIfInBounds 3 x))).FunFrames base l /\
   ∀b o,s.heap.get? b=some o->(∀ws,o.data ≠ .fields ws)->(s.heap.update T (Obj.mapFields (·.setIfInBounds 3 x))).get? b=some o:=by
 have off:∀b,b≠T->(s.heap.update T (Obj.mapFields (·.setIfInBounds 3 x))).get? b=s.heap.get? b:=fun b nb=>J5 _ _ (Ne.symm nb)
 have kp:∀b o,s.heap.get? b=some o->(∀ws,o.data ≠ .fields ws)->(s.heap.update T (Obj.mapFields (·.setIfInBounds 3 x))).get? b=some o:=fun b o z nf=>
  (off b fun w=>by rw[w,hT] at z;cases z;exact nf ts dT).trans z
 exact⟨off,fun b o z=>(off b fun w=>by rw[w,nT] at z;cases z).trans (fZ b o z),kF.of_keeps fun b o z nf=>⟨o,kp b o z nf,rfl⟩,kp⟩
theorem G5 (oV:A.frames=some (env::outer))(hf:env.frame=some L)(zm:pN base (env::outer) e cls a0 dx s.heap)(q:∀h',Ig base (env::outer) e cls a0 dx L h'->s.heap.UpToSlots h'->Q () { s with heap:=h' }):wpAny M A (noteFrame (.ref e) env) Q E s:=by
 obtain⟨fZ,new,kF,oe,vs,T,oT,ts,he,rfl,rfl,hd,h0,h1,nT,ne,hT,dT,h3⟩:=zm
 obtain⟨off,eK,fu2,kp⟩:=slot_set (x := .none) hT dT nT fZ kF
 unfold noteFrame
 simp only[hf]
 refine wpAny_bind (wpAny_field he hd h1 ?_)
 rw[if_pos (show(Value.ref T != Value.none)=true by simp)]
 refine wpAny_bind (wpAny_field hT dT h3 ?_)
 rw[if_neg (show ¬((Value.none==rawInt L)=true) by simp[rawInt])]
 refine wpAny_bind (wpAny_setField hT dT (Uv.mp h3).1 ?_)
 refine ph oV fu2 hf ((off e (Ne.symm ne)).trans he) eK new hd (Uv.mp h1).1 h0 fun h' k1 k2 k3 k4=>q h' ⟨k1,new,k2,k3⟩ fun b o z nf=>k4 b o (kp b o z nf) nf
theorem Ih {l:List Env}{fl:Value}(fZ:base.StaysIn s.heap)(new:base.get? e=none)(kF:s.heap.FunFrames base l)(tr:QM s.heap base e cls a0 dx fl)(q:∀h',pN base l e cls a0 dx h'->s.heap.UpToSlots h'->Q () { s with heap:=h' }):
  wpAny M A (setFlight (.ref e) none) Q E s:=by
 obtain⟨oe,vs,T,oT,ts,he,rfl,rfl,hd,h0,h1,nT,ne,hT,dT,h3⟩:=tr
 have My:3<ts.size:=(Uv.mp h3).1
 obtain⟨off,eK,fu2,kp⟩:=slot_set (x:=(none:Option Addr).elim Value.none fun f=>rawInt f) hT dT nT fZ kF
 unfold setFlight
 refine wpAny_bind (wpAny_field he hd h1 ?_)
 rw[if_pos (show(Value.ref T != Value.none)=true by simp)]
 have VS:=Obj.data_mapFields dT (·.setIfInBounds 3 ((none:Option Addr).elim Value.none fun f=>rawInt f))
 exact wpAny_setField hT dT My (q _ ⟨eK,new,fu2,oe,vs,T,_,_,(off e (Ne.symm ne)).trans he,rfl,rfl,hd,h0,h1,nT,ne,J3 _ hT (Obj.isFreed_of_fields VS),VS,by simp[My]⟩ fun b o z nf=>⟨o.slots,kp b o z nf⟩)
theorem pN.tail {h:Heap}(x:pN base (env::outer) e cls a0 dx h):pN base outer e cls a0 dx h:=let ⟨a,b,⟨_,_,c⟩,d⟩:=x; ⟨a,b,c,d⟩
theorem Bc (oV:A.frames=some (env::outer))(hf:env.frame=some L)(zm:pN base (env::outer) e cls a0 dx s.heap)(q:∀h',pN base outer e cls a0 dx h'->s.heap.UpToSlots h'->Q () { s with heap:=h' }):wpAny M A (leaving env (.ref e)) Q E s:=by
 unfold leaving
 exact wpAny_bind (G5 oV hf zm fun h1 hd up=>Ih hd.1 hd.2.1 hd.2.2.1 hd.2.2.2 fun h2 fly2 up2=>q h2 fly2.tail (up.trans up2))
theorem tq {oe:Obj}{vs:Array Value}(oV:A.frames=some (env::outer))(kF:s.heap.FunFrames base (env::outer))(hf:env.frame=some L)(he:s.heap.get? e=some oe)(fZ:base.StaysIn s.heap)(new:base.get? e=none)
  (hd:oe.data = .fields vs) (h1:vs[1]? = some .none) (h0:vs[0]? = some a0) (q:∀h',pN base outer e oe.cls a0 oe.dict h'->s.heap.UpToSlots h'->Q () { s with heap:=h' }):wpAny M A (leaving env (.ref e)) Q E s:=by
 unfold leaving
 exact wpAny_bind (yx oV kF hf he fZ new hd h1 h0 fun h1 hd up=>Ih hd.1 hd.2.1 hd.2.2.1 hd.2.2.2 fun h2 fly2 up2=>q h2 fly2.tail (up.trans up2))
end
theorem bz.ex {P:Program}{w:World}{H:Hp}{h:Heap}{a:Addr}{o:HO}(x:bz P w H h a o):∃q,h.get? a=some q:=by
 cases o with
 | lst xs=>obtain⟨_,_,_,_,e⟩:=x;exact⟨_,e⟩
 | tup xs=>obtain⟨_,_,_,_,e,_⟩:=x;exact⟨_,e⟩
 | dK kvs=>obtain⟨_,_,_,_,_,_,_,e,_⟩:=x;exact⟨_,e⟩
 | dT kvs=>obtain⟨_,_,_,_,_,_,_,e,_⟩:=x;exact⟨_,e⟩
 | set S n=>obtain⟨_,_,_,_,e,_⟩:=x;exact⟨_,e⟩
 | ins C dx fs=>exact⟨_,x.2.2.2.1⟩
 | own y=>exact x
 | xd fs=>obtain⟨_,⟨_,_,_,e,_⟩,_⟩:=x;exact⟨_,e⟩
 | rng lo hi=>obtain⟨_,_,_,e⟩:=x;exact⟨_,e⟩
 | frz ob u=>exact⟨_,x.1⟩
 | tbl ps=>exact⟨_,x⟩
 | met f y=>exact⟨_,x⟩
 | ext φ=>exact x.2.1
theorem gV.part {P:Program}{w:World}{H:Hp}{h h' B:Heap}(x:gV P w H h)(hB:B.StaysIn h)(Xi:B.StaysIn h')(jr:∀b u,H b=some u->∃o,B.get? b=some o):gV P w H h':=fun a o e=>
 (x a o e).fZ (fun b u hb q=>by
  obtain⟨o',eo⟩:∃o',B.get? b=some o':=by
   rcases hb with hb|hb
   ·subst hb;exact jr _ _ e
   ·exact jr _ _ hb
  have:=hB b o' eo
  rw[q] at this;cases this
  exact Xi b _ eo) (fun _ q=>q) fun _ _ q=>q
noncomputable def pI (H:Hp)(a:Addr):Hp:=fun b=>if b=a then none else H b
theorem fe {H:Hp}{a:Addr}:pI H a a=none:=if_pos rfl
theorem cJ {H:Hp}{a b:Addr}(h:b≠a):pI H a b=H b:=if_neg h
def pO (P:Program)(w:World)(base:Heap):Al:=fun outer H s E e s'=>Ch fun ea cls t B H' dx=>e = .ref ea/\s'.os=s.os/\AllBare s'.gens/\Un (gm outer) [] H H' s.heap s'.heap/\gV P w H' s'.heap /\
 base.StaysIn B/\(∀b o,s.heap.get? b=some o->b∉gm outer->∃o',B.get? b=some o')/\(∀b u,H' b=some u->∃o',B.get? b=some o')/\pN B outer ea cls (.ref t) dx s'.heap/\E cls dx H'
theorem vE {base h:Heap}:∀{l:List Env} {b:Addr},h.FunFrames base l->b∈gm l->∃o,h.get? b=some o/\∀vs,o.data ≠ .fields vs:=fun{l b} hl hb=>by
 refine ai.el (hl.mem hb) _ ?_
 rintro _ o e n
 exact⟨o,e,n⟩
section
variable {P:Program}{w:World}{K:Ja}{mg:Str->Option Value}{base:Heap}{N:List Str}{qual:Str}{scope:Scope}{f:Addr}{cd:Value}{A:Around}{outer:List Env}{s0:Shared}{H0:Hp}{E:XK}
theorem xv {pins:List (Addr×Obj)}{σ:St}{H:Hp}{s:Shared}{e t:Addr}{oe:Obj}{vs:Array Value}
  (I:Inv (hV (pO P w base) P w K mg base N qual scope f cd A outer s0 H0 E) pins σ H s) (he:s.heap.get? e=some oe) (new:s0.heap.get? e=none) (hd:oe.data = .fields vs) (v1:vs[1]? = some .none) (v0:vs[0]? = some (.ref t))
  (PH:H e=none∨∃ φ,H e=some (.ext φ)) (hE:E oe.cls oe.dict (pI H e)):(hV (pO P w base) P w K mg base N qual scope f cd A outer s0 H0 E).xe (.ref e) s:=by
 let env:=envOfC qual scope s0.heap.objs.size f cd
 let B:=hideAll s.heap (e::gm (env::outer))
 have l9:B.StaysIn s.heap:=fun b o q=>of_hideAll _ q
 have Dj:s.heap.FunFrames base (env::outer):=I.stack
 have oV:(A.deeper env).frames=some (env::outer):=I.ok.frames
 have Sr:∀b o,s0.heap.get? b=some o->b≠s0.heap.objs.size:=fun b o q=>Jm (Jf q)
 have Cp:∀b o,s0.heap.get? b=some o->b≠e:=fun b o q z=>by rw[z,new] at q;cases q
 have KZ:∀b,b∈gm (env::outer)->b=s0.heap.objs.size∨b∈gm outer:=fun b hb=>by
  have:b∈(env::outer).filterMap (·.frame):=hb
  rw[U6] at this
  exact Jv.mp this
 have Xl:∀b o,base.get? b=some o->b≠e:=fun b o q z=>by
  have q0:=I.ok.bs b o q
  exact Cp b _ q0.1 z
 have jr:∀b u,pI H e b=some u->∃o,B.get? b=some o:=fun b u q=>by
  have nb:b≠e:=fun z=>by rw[z,fe] at q;cases q
  rw[cJ nb] at q
  obtain⟨o,eo⟩:=(I.bC b u q).ex
  refine⟨o,hideAll_get _ eo fun z =>?_⟩
  rcases Jv.mp z with z|z
  ·exact nb z
  ·have:=I.tK b z
   rw[q] at this;cases this
 have Ta:base.StaysIn B:=fun b o q=>by
  refine hideAll_get _ (I.bs b o q).1 fun z =>?_
  rcases Jv.mp z with z|z
  ·exact Xl b o q z
  ·have:=(Dj.mem z).1
   rw[q] at this;cases this
 have ub:Un (gm outer) [] H0 H s0.heap s.heap:=I.base
 show wpAny _ _ (leaving env (.ref e)) _ _ _
 refine tq (base:=B) oV (funFrames_hide Dj fun v hv a ha=>Jo _ (List.mem_filterMap.mpr ⟨v,hv,ha⟩)) rfl he l9 (hideAll_none _ (Jr ..)) hd v1 v0 fun h' zm up =>?_
 have hk:∀b o,b≠e->b∉gm (env::outer)->s.heap.get? b=some o->h'.get? b=some o:=fun b o ne hb q=>zm.1 b o (hideAll_get _ q fun z=>(Jv.mp z).elim ne hb)
 have uk:∀b o,b∈gm (env::outer)->s.heap.get? b=some o->∃sl,h'.get? b=some { o with slots:=sl }:=fun b o hb q=>by
  refine ai.el (vE Dj hb) _ ?_
  rintro o' e' nf
  rw[q] at e';cases e'
  exact up b o q nf
 have old:∀b o,s0.heap.get? b=some o->b∉gm outer->b∉gm (env::outer):=fun b o q hb z=>(KZ b z).elim (Sr b o q) hb
 have Ps:gV P w (pI H e) s.heap:=fun b u q=>by
  have nb:b≠e:=fun z=>by rw[z,fe] at q;cases q
  rw[cJ nb] at q
  refine(I.bC b u q).fZ (fun _ _ _ z=>z) (fun c z =>?_) fun c xs z =>?_
  all_goals
   have nc:c≠e:=fun y=>by
    rw[y] at z
    rcases PH with l|⟨φ,l⟩<;>(rw[l] at z;cases z)
   rw[cJ nc];exact z
 have Ez:∀b o,H0 b=some o->(∀ φ,H b≠some (.ext φ))->H b≠none->pI H e b=H b:=fun b o q n1 n2=>by
  refine cJ fun z =>?_
  rw[z] at n1 n2
  rcases PH with l|⟨φ,l⟩
  ·exact n2 l
  ·exact n1 φ l
 refine⟨e,oe.cls,t,B,pI H e,oe.dict,rfl,I.os,I.bare,⟨?_,?_,?_,?_,?_,?_,?_⟩,Ps.part l9 zm.1 jr,Ta,?_,jr,zm,hE⟩
 ·exact fun b o q n hb mE=>hk b o (Cp b o q) (old b o q hb) (ub.keep b o q n hb mE)
 ·intro b o q n hb mE
  obtain⟨sl,e1⟩:=ub.slot b o q n hb mE
  obtain⟨sl',e2⟩:=uk b _ (by show b∈(env::outer).filterMap (·.frame);rw[U6];exact Jo _ hb) e1
  exact⟨sl',e2⟩
 ·intro b o q n mE
  rw[cJ (Cp b o q)]
  exact ub.free b o q n mE
 ·intro b o q mE
  obtain⟨o1,e1⟩:=ub.there b o q mE
  by_cases hb:b∈gm (env::outer)
  ·obtain⟨sl,e2⟩:=uk b o1 hb e1
   exact⟨_,e2⟩
  ·exact⟨o1,hk b o1 (Cp b o q) hb e1⟩
 ·intro b xs q
  have z:=ub.jw b xs q
  rw[Ez b _ q (fun φ y=>by rw[z] at y;cases y) (fun y=>by rw[z] at y;cases y)]
  exact z
 ·intro b o u q
  have z:=ub.jh b o u q
  rw[Ez b _ q (fun φ y=>by rw[z] at y;cases y) (fun y=>by rw[z] at y;cases y)]
  exact z
 ·intro b ps q
  obtain⟨m,z⟩:=ub.j3 b ps q
  refine⟨m,?_⟩
  rw[Ez b _ q (fun φ y=>by rw[z] at y;cases y) (fun y=>by rw[z] at y;cases y)]
  exact z
 ·intro b o q hb
  obtain⟨o1,e1⟩:=ub.there b o q (by simp)
  exact⟨o1,hideAll_get _ e1 fun z=>(Jv.mp z).elim (Cp b o q) (old b o q hb)⟩
theorem qz {E':XK}(hE:∀c d H,E' c d H->E c d H):Passes (pO P w base) (hV (pO P w base) P w K mg base N qual scope f cd A outer s0 H0 E) E':=by
 intro pins σ H s ev s' I h
 let env:=envOfC qual scope s0.heap.objs.size f cd
 obtain⟨e,cls,t,B,H',dx,rfl,os',bare',u1,Ee,Ta,hold,jr,zm,q⟩:=h
 have oV:(A.deeper env).frames=some (env::outer):=I.ok.frames
 have ub:Un (gm outer) [] H0 H s0.heap s.heap:=I.base
 have u1:Un (gm (env::outer)) [] H H' s.heap s'.heap:=u1
 have zm:pN B (env::outer) e cls (.ref t) dx s'.heap:=zm
 have hold:∀b o,s.heap.get? b=some o->b∉gm (env::outer)->∃o',B.get? b=some o':=hold
 have Sr:∀b o,s0.heap.get? b=some o->b≠s0.heap.objs.size:=fun b o q=>Jm (Jf q)
 have KZ:∀b,b∈gm (env::outer)->b=s0.heap.objs.size∨b∈gm outer:=fun b hb=>by
  have:b∈(env::outer).filterMap (·.frame):=hb
  rw[U6] at this
  exact Jv.mp this
 have dn:∀b,b∈gm outer->b∈gm (env::outer):=fun b hb=>by
  show b∈(env::outer).filterMap (·.frame)
  rw[U6];exact Jo _ hb
 have old:∀b o,s0.heap.get? b=some o->b∉gm outer->b∉gm (env::outer):=fun b o q hb z=>(KZ b z).elim (Sr b o q) hb
 have Dj:s'.heap.FunFrames B (env::outer):=zm.2.2.1
 have X7:s'.os=s0.os:=os'.trans I.os
 show wpAny _ _ (leaving env (.ref e)) _ _ _
 refine Bc (base:=B) oV rfl zm fun h' fly' up =>?_
 have step:∀b o,s.heap.get? b=some o->b∉gm (env::outer)->∀o1,s'.heap.get? b=some o1->h'.get? b=some o1:=fun b o q hb o1 e1=>by
  obtain⟨o',eo⟩:=hold b o q hb
  have e2:=zm.1 b o' eo
  rw[e1] at e2;cases e2
  exact fly'.1 b _ eo
 have uk:∀b o,b∈gm (env::outer)->s'.heap.get? b=some o->∃sl,h'.get? b=some { o with slots:=sl }:=fun b o hb q=>by
  refine ai.el (vE Dj hb) _ ?_
  rintro o' e' nf
  rw[q] at e';cases e'
  exact up b o q nf
 refine⟨e,cls,t,B,H',dx,rfl,X7,bare',⟨?_,?_,?_,?_,?_,?_,?_⟩,Ee.part zm.1 fly'.1 jr,Ta,?_,jr,fly',hE _ _ _ q⟩
 ·intro b o q n hb mE
  have e1:=ub.keep b o q n hb mE
  have n1:=ub.free b o q n mE
  have Cg:=old b o q hb
  exact step b o e1 Cg o (u1.keep b o e1 n1 Cg (by simp))
 ·intro b o q n hb mE
  obtain⟨sl,e1⟩:=ub.slot b o q n hb mE
  have n1:=ub.free b o q n mE
  obtain⟨sl1,e2⟩:=u1.slot b _ e1 n1 (dn b hb) (by simp)
  obtain⟨sl2,e3⟩:=uk b _ (dn b hb) e2
  exact⟨sl2,e3⟩
 ·intro b o q n mE
  have n1:=ub.free b o q n mE
  obtain⟨o1,e1⟩:=ub.there b o q mE
  exact u1.free b o1 e1 n1 (by simp)
 ·intro b o q mE
  obtain⟨o1,e1⟩:=ub.there b o q mE
  obtain⟨o2,e2⟩:=u1.there b o1 e1 (by simp)
  by_cases hb:b∈gm (env::outer)
  ·obtain⟨sl,e3⟩:=uk b o2 hb e2
   exact⟨_,e3⟩
  ·exact⟨o2,step b o1 e1 hb o2 e2⟩
 ·exact fun b xs q=>u1.jw b xs (ub.jw b xs q)
 ·exact fun b o u q=>u1.jh b o u (ub.jh b o u q)
 ·intro b ps q
  obtain⟨m1,e1⟩:=ub.j3 b ps q
  obtain⟨m2,e2⟩:=u1.j3 b _ e1
  exact⟨m1++m2,by rw[e2,Array.append_assoc]⟩
 ·intro b o q hb
  obtain⟨o1,e1⟩:=ub.there b o q (by simp)
  exact hold b o1 e1 (old b o q hb)
end
section
variable {X:Cx}{L:Addr}{pins:List (Addr×Obj)}{σ:St}{H:Hp}{s:Shared}
theorem Inv.EN {e:Addr}{o:HO}(I:Inv X pins σ H s)(h0:H e=none)(h1:e≠X.env.locals)(h2:∀x c,X.env.cells.lookup x=some c->c≠e)(h3:∀p∈X.pn++pins,p.1≠e)(h4:∀b u,X.s₀.heap.get? b=some u->b≠e)
  (new:bz X.prog X.w (upd H e o) s.heap e o):Inv X pins σ (upd H e o) s:=by
 refine⟨I.ok,I.os,I.bare,⟨I.base.keep,I.base.slot,fun b u q n hx =>?_,I.base.there,fun b xs q =>?_,fun b u xs q =>?_,fun b ps q =>?_⟩,I.loc,I.cell,?_,fun x c q =>?_,fun p hp =>?_,I.bC.adopt h0 new,I.len⟩
 ·rw[ak (h4 b u q)];exact I.base.free b u q n hx
 ·have z:=I.base.jw b xs q
  rw[ak (aw z h0)];exact z
 ·have z:=I.base.jh b u xs q
  rw[ak (aw z h0)];exact z
 ·obtain⟨m,z⟩:=I.base.j3 b ps q
  exact⟨m,by rw[ak (aw z h0)];exact z⟩
 ·rw[ak (Ne.symm h1)];exact I.free
 ·rw[ak (h2 x c q)];exact I.freeC x c q
 ·obtain⟨p1,p2,p3⟩:=I.pin p hp
  exact⟨p1,by rw[ak (h3 p hp)];exact p2,p3⟩
end
section
variable {P:Program}{w:World}{K:Ja}{mg:Str->Option Value}{base:Heap}
theorem bO.Pc {x qual:Str}{st:Stmt}{f:Addr}{fd:FuncData}{N ps:List Str}{k:Nat}{sp:Sp}(F:bO K x qual st f fd)(S:aA N ps (aj st))(len:∀vs H Q E,sp vs H Q E->vs.length=ps.length)
  (vC:∀(cG:Value) (A:Around) (outer:List Env) (s:Shared) (H:Hp) (vs:List V) (Q:VK) (E:XK),cY k (A.deeper (envOfC qual (aj st) s.heap.objs.size f cG))->sp vs H Q E ->
   ∃t,yU (hV (pO P w base) P w K mg base N qual (aj st) f cG A outer s H E) (cR st) t/\t { nx:=fun _ H'=>Q .non H',rt:=Q } (start N vs) H):bh P w K mg base (pO P w base) (k+1) f fd ps sp:=by
 refine ai.el (F.ex) _ ?_
 rintro oc od kV doc pm an cG ct zR rfl lk wX
 exact Iu lk wX S len fun A outer s H vs Q E hr Fh=>vC cG A outer s H vs Q E hr Fh
structure zM (P:Program)(w:World)(K:Ja)(mg:Str->Option Value)(base:Heap)(k:Nat)(x:Str)(ps:List Str)(sp:Sp):Prop where
 ex:∃f fd,bh P w K mg base (pO P w base) k f fd ps sp/\Binds K fd ps []/\Uu K (.ref f)=true/\mg x=some (.ref f)
theorem zM.mono {j k:Nat}{x:Str}{ps:List Str}{sp:Sp}(F:zM P w K mg base j x ps sp)(h:j<=k):zM P w K mg base k x ps sp:=by
 refine ai.el (F.ex) _ ?_
 rintro f fd a b c d
 exact⟨f,fd,a.mono h,b,c,d⟩
theorem Ey {N:List Str}{qual:Str}{scope:Scope}{fa:Addr}{cd:Value}{A:Around}{outer:List Env}{s0:Shared}{H0:Hp}{E E':XK}{k:Nat}{x:Str}{ps:List Str}{sp:Sp}{p pos:Pos}{e:Expr}{es:List Expr}{t:TA}
  (F:zM P w K mg base k x ps sp) (hr:cY k (A.deeper (envOfC qual scope s0.heap.objs.size fa cd))) (hg:Gl (hV (pO P w base) P w K mg base N qual scope fa cd A outer s0 H0 E) x) (hE:∀c d H,E' c d H->E c d H)
  (ha:PA (hV (pO P w base) P w K mg base N qual scope fa cd A outer s0 H0 E) (e::es) t) (sR:(x==("__debug__" : Str))=false:=by decide)
  (he:starEach (e::es) (envOfC qual scope s0.heap.objs.size fa cd)=(false,eval e (envOfC qual scope s0.heap.objs.size fa cd))::starEach es (envOfC qual scope s0.heap.objs.size fa cd):=by rfl)
  (qy:(backTo pos (starEach es (envOfC qual scope s0.heap.objs.size fa cd))).any (·.1)=false:=by rfl) :
  PE (hV (pO P w base) P w K mg base N qual scope fa cd A outer s0 H0 E) (.Call (.Name x p) (e::es) [] pos) (ur sp [] E' t):=by
 refine ai.el (F.ex) _ ?_
 rintro f fd a b c d
 exact zr (X:=hV (pO P w base) P w K mg base N qual scope fa cd A outer s0 H0 E) a hr hg d c b .nil (qz hE) ha sR he qy
end
theorem zM.calm {P:Program}{w:World}{K:Ja}{mg:Str->Option Value}{base:Heap}{k:Nat}{x:Str}{ps:List Str}{sp IB:Sp}(F:zM P w K mg base k x ps sp)(h:∀vs H Q E,IB vs H Q E->sp vs H Q (fun _ _ _=>False)):Fn P w K mg base k x ps IB:=by
 refine ai.el (F.ex) _ ?_
 rintro f fd a b c d
 refine⟨f,fd,⟨fun vs H Q E q=>a.len _ _ _ _ (h _ _ _ _ q),fun A outer s H args us vs Q E hr he hb hv hs=>codeAny_mono (a.run A outer s H args us vs Q _ hr he hb hv (h _ _ _ _ hs)) fun r s' q =>?_⟩,b,c,d⟩
 cases r with
 | error e=>obtain⟨_,_,_,_,_,_,_,_,_,_,_,_,_,_,_,z⟩:=q;exact z
 | ok fl=>cases fl<;>exact q
open PySem.Calls Builtin Builtin.ObjectAttr Builtin.Getset_descriptor
section
variable {X:Cx}
theorem gR {x:Str}{C:Addr}{pos:Pos}(hg:Gl X x)(hm:X.mg x=some (.ref C))(hd:(x==("__debug__" : Str))=false:=by decide):PE X (.Name x pos) (tC (.ref C)):=rO (v := .ref C) hg hm rfl hd
end
section
variable {X:Cx}
theorem GW:dR X (binaryOp .Mult) (fun x y H Q=>∃(z:Str) (n:Int),x = .str z/\y = .int n/\MulOk z n/\Q (.str (Txt.mul z n)) H):=by
 intro pins s σ H x y v u Q I rx ry h
 obtain⟨z,n,rfl,rfl,ok,q⟩:=h
 obtain⟨t,rfl⟩:=rx
 obtain⟨t',rfl⟩:=ry
 exact SB.mul ok fun t' k=>⟨.str _,H,I.tok _,⟨_,rfl⟩,q⟩
def Pe:R2:=fun x y H Q=>Ik x y H Q∨∃(z:Str) (n:Int),x = .str z/\y = .int n/\MulOk z n/\Q (.str (Txt.mul z n)) H
theorem MN:dR X (binaryOp .Mult) Pe:=sy.or GW
theorem l7 {z:Str}{n:Int}(h1:z.length<=1000)(h2:n<=1000)(h3: -1000<=n):MulOk z n:=by
 refine⟨?_,fun a _ =>?_,fun a _ =>?_⟩
 ·rw[decide_eq_false (by omega),decide_eq_false (by omega)];rfl
 ·have:(1000:Int)<=(2^63-1) / n:=by
   rw[Int.le_ediv_iff_mul_le (by omega)]
   omega
  omega
 ·have:z.length*n.toNat<=1000*1000:=Nat.mul_le_mul h1 (by omega)
  show decide (_>sizeLine)=false
  simp
  exact Jh this (by decide)
end
noncomputable def oneMore {K:Type}[DecidableEq K](D:List K)(k:K):List K:=if k∈D then D else D++[k]
noncomputable def bN {K:Type}[DecidableEq K](ks:Nat->K):Nat->List K
 | 0=>[]
 | i+1=>oneMore (bN ks i) (ks i)
theorem jO {K:Type}[DecidableEq K](ks:Nat->K):∀i,(bN ks i).length<=i
 | 0=>Je _
 | i+1=>by
  have:=jO ks i
  unfold bN oneMore
  split
  ·omega
  ·rw[Jp];exact Y9 this
section
variable {prog:Program}{w:World}{K:Type}[DecidableEq K]{knd:PySem.KeyKind prog w K}
def j8 (knd:PySem.KeyKind prog w K)(h:Heap)(a:Addr)(D:List K):Prop:=h.SetOf knd a (fun k=>decide (k∈D)) D.length
theorem j8.at' {h h':Heap}{a:Addr}{D:List K}(x:j8 knd h a D)(k:∀o,h.get? a=some o->h'.get? a=some o):j8 knd h' a D:=by
 obtain⟨o,es,ep,t,e,r⟩:=x
 exact⟨o,es,ep,t,k _ e,r⟩
variable {A:Around}{R:Result->Shared->Prop}{I:Addr}{fp wr:List Addr}{G:Array GenState->Array GenState->Prop}{n:Nat}{P:Nat->Value->Prop}{St:Nat->Shared->Prop}
end
noncomputable abbrev j7 (led:Bool):Obj:={ cls := .type "set",dict:=none,data := .set #[] 0 (.fresh 0 0 led) }
def Up (xs:List Nat):Prop:=xs.Pairwise (· < ·)
theorem Up.lt {xs:Array Nat}(h:Up xs.toList){i j:Nat}(hj:j<xs.size)(vY:i<j):xs[i]<xs[j]:=by
 have:=Ux.mp h i j (by simpa using Nat.lt_trans vY hj) (by simpa using hj) vY
 simpa using this
structure Cut (xs:Array Nat)(j p:Nat):Prop where
 le:p<=xs.size
 lo:∀i (h:i<xs.size),i<p->xs[i]<j
 hi:∀i (h:i<xs.size),p<=i->j<=xs[i]
theorem nV {xs:Array Nat}(u:Up xs.toList)(j:Nat):∀(fuel lo hi:Nat),hi-lo<=fuel->lo<=hi->hi<=xs.size->(∀i (h:i<xs.size),i<lo->xs[i]<j)->(∀i (h:i<xs.size),hi<=i->j<=xs[i])->Cut xs j (SetTable.below.go xs j fuel lo hi)
 | 0,lo,hi,hf,hl,hs,h1,h2=>by
  have e:lo=hi:=by omega
  unfold SetTable.below.go
  subst e
  exact⟨hs,h1,h2⟩
 | fuel+1,lo,hi,hf,hl,hs,h1,h2=>by
  unfold SetTable.below.go
  by_cases hW:lo<hi
  ·rw[if_pos hW]
   have hm:(lo+hi) / 2<xs.size:=by omega
   have e:xs.getD ((lo+hi) / 2) j=xs[(lo+hi) / 2]:=by simp[Array.getD,hm]
   dsimp only
   rw[e]
   by_cases hc:xs[(lo+hi) / 2]<j
   ·rw[if_pos hc]
    refine nV u j fuel _ _ (by omega) (by omega) hs (fun i h v9 =>?_) h2
    by_cases q:i=(lo+hi) / 2
    ·subst q;exact hc
    ·exact Nat.lt_trans (u.lt hm (by omega)) hc
   ·rw[if_neg hc]
    refine nV u j fuel _ _ (by omega) (by omega) (by omega) h1 (fun i h v9 =>?_)
    by_cases q:i=(lo+hi) / 2
    ·subst q;omega
    ·have:=u.lt h (show(lo+hi) / 2<i by omega)
     omega
  ·rw[if_neg hW]
   have e:lo=hi:=by omega
   subst e
   exact⟨hs,h1,h2⟩
theorem qE {xs:Array Nat}(u:Up xs.toList)(j:Nat):Cut xs j (SetTable.below xs j):=
 nV u j _ _ _ (by omega) (Um _) (Je _) (fun i h z=>absurd z (Nat.not_lt_zero _)) fun i h z=>absurd h (by omega)
def eE (t:SetTable):Prop:=t.dummies = #[]/\Up t.place.toList
theorem xu {a b:Nat}{led:Bool}:eE (SetTable.fresh a b led):=⟨rfl,List.Pairwise.nil⟩
theorem gU (t:SetTable)(n:Nat):eE (t.standIn n):=⟨rfl,by
 show List.Pairwise _ (Array.range n).toList
 rw[Array.toList_range]
 exact List.pairwise_lt_range⟩
theorem has_none (j:Nat):SetTable.has #[] j=false:=by
 unfold SetTable.has
 simp
theorem B5 {t:SetTable}(g:eE t)(j:Nat):t.slot j = .empty∨∃i,t.slot j = .live i:=by
 unfold SetTable.slot
 dsimp only
 split
 ·exact .inr ⟨_,rfl⟩
 ·rw[g.1,has_none]
  exact .inl rfl
theorem Bv {t:SetTable}(g:eE t){j:Nat}(h:t.slot j = .empty):j∉t.place.toList:=fun hm=>by
 obtain⟨i,hi,e⟩:=Yt.mp hm
 have v9:i<t.place.size:=by simpa using hi
 have e':t.place[i]=j:=by simpa using e
 have c:=qE g.2 j
 have hp:SetTable.below t.place j=i:=by
  have h1:¬i<SetTable.below t.place j:=fun z=>by have:=c.lo i v9 z;omega
  have h2:¬SetTable.below t.place j<i:=fun z=>by
   have hs:SetTable.below t.place j<t.place.size:=by omega
   have a:=c.hi _ hs (Je _)
   have b:=g.2.lt v9 z
   omega
  omega
 unfold SetTable.slot at h
 dsimp only at h
 rw[hp,J9 v9,e'] at h
 simp at h
theorem pF {t:SetTable}(g:eE t){h:Int}{j:Nat}{d:Option Nat}:∀(fuel:Nat) (p:SetTable.Probe),p.dummy=none->SetTable.probe.go t (fun _=>h+1) h fuel p=some (.empty j d)->t.slot j = .empty/\d=none
 | 0,p,hp,e=>by unfold SetTable.probe.go at e;cases e
 | fuel+1,p,hp,e=>by
  unfold SetTable.probe.go at e
  rcases B5 g p.j with q|⟨i,q⟩
  ·rw[q] at e
   dsimp only at e
   cases e
   exact⟨q,hp⟩
  ·rw[q] at e
   dsimp only at e
   rw[if_neg (by rw[beq_iff_eq];omega)] at e
   refine pF g fuel _ ?_ e
   unfold SetTable.advance
   split
   ·exact hp
   ·exact hp
theorem ET {t:SetTable}(g:eE t){j:Nat}(h:t.slot j = .empty):eE (t.put j).1:=by
 have hn:=Bv g h
 have c:=qE g.2 j
 unfold SetTable.put
 refine⟨?_,?_⟩
 ·show(if SetTable.has t.dummies j=true then _ else t.dummies) = #[]
  rw[g.1,has_none,if_neg Jl]
 ·show Up (SetTable.insertAt t.place _ j).toList
  rw[SetTable.toList_insertAt]
  have u:Up t.place.toList:=g.2
  refine Ys.mpr ⟨List.Pairwise.sublist (List.take_sublist _ _) u,List.pairwise_cons.mpr ⟨fun x hx =>?_,List.Pairwise.sublist (List.drop_sublist _ _) u⟩,fun x hx y hy =>?_⟩
  ·obtain⟨i,hi,e⟩:=Yt.mp hx
   rw[List.getElem_drop] at e
   have v9:SetTable.below t.place j+i<t.place.size:=by rw[Y8] at hi;simp at hi;omega
   have:=c.hi _ v9 (Ur _ _)
   have e':t.place[SetTable.below t.place j+i]=x:=by simpa using e
   have E8:j≠x:=fun z=>hn (by rw[z];exact List.mem_of_mem_drop hx)
   omega
  ·have XC:x<j:=by
    obtain⟨i,hi,e⟩:=Yt.mp hx
    rw[List.getElem_take] at e
    rw[Uq] at hi
    have v9:i<t.place.size:=by simp at hi;omega
    have:=c.lo i v9 (by omega)
    have e':t.place[i]=x:=by simpa using e
    omega
   rcases Jv.mp hy with rfl|hy
   ·exact XC
   ·obtain⟨i,hi,e⟩:=Yt.mp hy
    rw[List.getElem_drop] at e
    have v9:SetTable.below t.place j+i<t.place.size:=by rw[Y8] at hi;simp at hi;omega
    have:=c.hi _ v9 (Ur _ _)
    have e':t.place[SetTable.below t.place j+i]=y:=by simpa using e
    omega
theorem FZ {t:SetTable}(g:eE t)(n:Nat):eE (t.orStandIn n):=by
 unfold SetTable.orStandIn
 split
 ·exact g
 ·exact gU t n
theorem DX {t:SetTable}(g:eE t)(es:Array (Int×Value))(h:Int)(x:Value):eE (layNew t es h x).2.1/\(layNew t es h x).2.1.led=t.led:=by
 unfold layNew
 split
 ·rename_i slot wasDummy hs
  dsimp only
  have y9:t.slot slot = .empty:=by
   unfold SetTable.freeSlot at hs
   split at hs
   ·rename_i j d hp
    unfold SetTable.probe at hp
    obtain⟨h1,h2⟩:=pF g _ _ rfl hp
    subst h2
    cases hs
    exact h1
   ·cases hs
  refine⟨FZ (ET g y9) _,?_⟩
  unfold SetTable.orStandIn
  split<;>rfl
 ·exact⟨gU t _,rfl⟩
theorem oh {β:Type}(f:Nat->Option β):∀l:List Nat,List.Sublist ((l.filterMap fun j=>(f j).map (j, ·)).map (·.1)) l
 | []=>List.Sublist.refl _
 | j::l=>by
  rw[U6]
  cases f j with
  | none=>exact List.Sublist.cons _ (oh f l)
  | some b=>exact List.Sublist.cons_cons _ (oh f l)
theorem A7 {mask finger moves:Nat}{led plain:Bool}{hs:Array Int}{t:SetTable}{order:Array Nat}(e:SetTable.laid mask finger moves led plain hs=some (t,order)):eE t/\t.led=led:=by
 unfold SetTable.laid at e
 cases q:SetTable.layClean mask hs with
 | none=>rw[q] at e;cases e
 | some owner=>
  rw[q] at e
  cases e
  refine⟨⟨rfl,?_⟩,rfl⟩
  exact List.Pairwise.sublist (oh _ _) List.pairwise_lt_range
theorem xT {t:SetTable}(es:Array (Int×Value))(n:Nat):eE (relayAll t es n).2.1/\(relayAll t es n).2.1.led=t.led:=by
 unfold relayAll
 split
 ·rename_i t' order hr
  dsimp only
  split
  ·unfold SetTable.relaid at hr
   exact A7 hr
  ·exact⟨gU t _,rfl⟩
 ·exact⟨gU t _,rfl⟩
section
variable {prog:Program}{w:World}{K:Type}[DecidableEq K]{knd:PySem.KeyKind prog w K}{A:Around}{E:Value->Shared->Prop}{s:Shared}{a:Addr}
def kg (w:World)(h:Heap)(a:Addr):Prop:=∃o es ep t,h.get? a=some o/\o.data = .set es ep t/\eE t/\(w.params.followText "set-order" = false->t.led=true)
theorem kg.at' {h h':Heap}(x:kg w h a)(k:∀o,h.get? a=some o->h'.get? a=some o):kg w h' a:=by
 obtain⟨o,es,ep,t,e,r⟩:=x
 exact⟨o,es,ep,t,k _ e,r⟩
def cV (knd:PySem.KeyKind prog w K)(h:Heap)(a:Addr)(D:List K):Prop:=j8 knd h a D/\kg w h a
theorem ue {o:Obj}{es:Array (Int×Value)}{ep:Nat}{t:SetTable}(ho:s.heap.get? a=some o)(hd:o.data = .set es ep t){es':Array (Int×Value)}{t':SetTable}(g:eE t')(l:w.params.followText "set-order" = false->t'.led=true):
  (s.heap.update a (Obj.putSet es' t')).get? a=some { o with data := .set es' (ep+1) t' } /\ kg w (s.heap.update a (Obj.putSet es' t')) a:=by
 have e:=J3 (Obj.putSet es' t') ho (by rw[putSet_of es' t' hd];rfl)
 rw[putSet_of es' t' hd] at e
 exact⟨e,_,_,_,_,e,rfl,g,l⟩
theorem yn {D:List K}{k:K}{x:Value}{Q:Bool->Shared->Prop}(hk:knd.is k x=true)(hx:x.scannable=true)(S:cV knd s.heap a D)(room:D.length+1<scanBound)
  (fin:∀b h',Uz a s.heap h'->cV knd h' a (oneMore D k)->Q b { s with heap:=h' }):wpAny (model prog w) A (setAddHashed a x (knd.hash k)) Q E s:=by
 obtain⟨HK,o',es',ep',t',yI,C2,gt',ld'⟩:=S
 obtain⟨o,es,ep,t,ho,ex,hd,el,mem,bnd,fit,len⟩:=id HK
 obtain⟨gt,ld⟩:eE t/\(w.params.followText "set-order" = false->t.led=true):=by
  rw[ho] at yI;cases yI
  rw[hd] at C2;cases C2
  exact⟨gt',ld'⟩
 have WB:=byScan_of hx bnd el
 unfold setAddHashed setAddHashedIn setAddByScan
 refine wpAny_holding (wpAny_bind (wpAny_setState_of ho hd fit ?_))
 dsimp only
 rw[WB,if_pos rfl]
 refine wpAny_bind (wpAny_bind (wpAny_rule (wpAny_bind (wpAny_setScan_of hk ho hd fit el ?_))))
 have M9:∀(b:Bool) {s1:Shared} {Q':Unit->Shared->Prop},Q' () s1->wpAny (model prog w) A (match b with|true=>rule "set.scan.the-table-gave-way" | false=>pure ()) Q' E s1:=fun b s1 Q' q=>by
  cases b
  ·exact wpAny_pure q
  ·exact wpAny_rule q
 cases hr:es.toList.findIdx? (fun e=>knd.is k e.2) with
 | some j=>
  obtain⟨hj,hp,_⟩:=List.findIdx?_eq_some_iff_getElem.mp hr
  have jr:k∈D:=of_decide_eq_true ((mem k).mpr ⟨_,Ub hj,hp⟩)
  refine wpAny_pure (wpAny_pure ?_)
  have q:=fin false s.heap (Uz.refl a s.heap) (by
   unfold oneMore
   rw[if_pos jr]
   exact⟨HK,_,_,_,_,ho,hd,gt,ld⟩)
  exact q
 | none=>
  have JL:k∉D:=fun z=>by
   obtain⟨e,he,hp⟩:=(mem k).mp (decide_eq_true z)
   have:=List.findIdx?_eq_none_iff.mp hr e he
   rw[hp] at this;cases this
  have more:∀k',decide (k'∈oneMore D k)=(decide (k'∈D)||decide (k'=k)):=fun k'=>by
   unfold oneMore
   rw[if_neg JL]
   simp[Bool.decide_or]
  obtain⟨g1,l1⟩:=DX gt es (knd.hash k) x
  have pm:=layNew_perm t es (knd.hash k) x
  have ft:=layNew_fits t es (knd.hash k) x
  dsimp only
  generalize layNew t es (knd.hash k) x=L at g1 l1 pm ft ⊢
  obtain⟨es1,t1,dummy,gv⟩:=L
  dsimp only at g1 l1 pm ft ⊢
  rw[Array.toList_push] at pm
  have Wr:ElemsOf knd es1.toList:=(el.push hk hx).perm pm
  have M4:∀k',decide (k'∈oneMore D k)=true ↔ ∃e∈es1.toList,knd.is k' e.2=true:=fun k'=>by
   rw[more];exact mem_push_iff hk mem pm k'
  have Mp:es1.size=(oneMore D k).length:=by
   unfold oneMore
   rw[if_neg JL,<-Uo,pm.length_eq,Jp,Jp,Uo,len];rfl
  have LP:(oneMore D k).length=D.length+1:=by
   unfold oneMore
   rw[if_neg JL,Jp];rfl
  have Nt:es1.size<scanBound:=by omega
  have Rj:w.params.followText "set-order" = false->t1.led=true:=fun z=>l1.trans (ld z)
  have tail:∀t2:SetTable,eE t2->(w.params.followText "set-order" = false->t2.led=true)->t2.fits es1.size=true->∀c:Bool,
    wpAny (model prog w) A (do
     storeSet a es1 t2
     if c=true then do
       (match (relayAll t2 es1 (SetTable.grown es1.size)).2.2 with|true=>rule "set.scan.the-table-gave-way" | false=>pure ())
       storeSet a (relayAll t2 es1 (SetTable.grown es1.size)).1 (relayAll t2 es1 (SetTable.grown es1.size)).2.1
       pure (some true)
      else pure (some true)) (fun r s'=>r=some true/\∃h',s'={ s with heap:=h' } /\ Uz a s.heap h'/\cV knd h' a (oneMore D k)) E s:=by
   intro t2 g2 ld2 ft2 c
   refine wpAny_bind (wpAny_storeSet_of ho hd ?_ (fits_of_scanBound Nt))
   obtain⟨e1,gs1⟩:=ue (es':=es1) ho hd g2 ld2
   have E7:=Uz.update s.heap a (Obj.putSet es1 t2)
   cases c with
   | false=>
    rw[if_neg Jl]
    exact wpAny_pure ⟨rfl,_,rfl,E7,⟨_,_,_,_,e1,ex,rfl,Wr,M4,Nt,ft2,Mp⟩,gs1⟩
   | true=>
    rw[if_pos rfl]
    have E5:=relayAll_perm t2 es1 (SetTable.grown es1.size)
    have Vd:=relayAll_fits t2 es1 (SetTable.grown es1.size)
    obtain⟨g3,l3⟩:=xT (t:=t2) es1 (SetTable.grown es1.size)
    generalize relayAll t2 es1 (SetTable.grown es1.size)=L2 at E5 Vd g3 l3 ⊢
    obtain⟨es2,t3,gv2⟩:=L2
    dsimp only at E5 Vd g3 l3 ⊢
    have Nv:es2.size=es1.size:=by rw[<-Uo,E5.length_eq,Uo]
    refine wpAny_bind (M9 _ ?_)
    refine wpAny_bind (wpAny_storeSet_of e1 rfl ?_ (fits_of_scanBound (by omega)))
    obtain⟨e2,gs2⟩:=ue (s:={ s with heap:=s.heap.update a (Obj.putSet es1 t2) }) (es':=es2) e1 rfl g3 (fun z=>l3.trans (ld2 z))
    refine wpAny_pure ⟨rfl,_,rfl,E7.trans (Uz.update _ a _),⟨_,_,_,_,e2,ex,rfl,Wr.perm E5,fun k'=>(M4 k').trans ⟨fun hz_=>ai.el hz_ _ fun e he q=>⟨e,E5.mem_iff.mpr he,q⟩,fun hz_=>ai.el hz_ _ fun e he q=>⟨e,E5.mem_iff.mp he,q⟩⟩,by omega,Vd,Nv.trans Mp⟩,gs2⟩
  have out:∀(r:Option Bool) s',(r=some true/\∃h',s'={ s with heap:=h' } /\ Uz a s.heap h'/\cV knd h' a (oneMore D k))->wpAny (model prog w) A (match r with|some added=>pure added|none=>setAddHashedIn a x (knd.hash k) 99999) Q E s':=by
   rintro r s' ⟨rfl,h',rfl,sb,sk⟩
   exact wpAny_pure (fin true h' sb sk)
  refine wpAny_bind (M9 _ ?_)
  cases qy:t1.plain with
  | false=>
   rw[if_neg Jl]
   refine wpAny_bind (wpAny_pure ?_)
   rw[if_pos rfl]
   exact wpAny_mono (tail t1 g1 Rj ft _) (fun r s' q=>out r s' q) fun _ _ z=>z
  | true=>
   rw[if_pos rfl]
   refine wpAny_bind ?_
   rw[hashByValue_scannable 8 hx]
   refine wpAny_pure ?_
   cases plainKind x with
   | true=>
    rw[if_pos rfl]
    exact wpAny_mono (tail t1 g1 Rj ft _) (fun r s' q=>out r s' q) fun _ _ z=>z
   | false=>
    rw[if_neg Jl]
    exact wpAny_mono (tail { t1 with plain:=false } g1 Rj (SetTable.fits_plain_off ft) _) (fun r s' q=>out r s' q) fun _ _ z=>z
theorem cV.at' {D:List K}{h h':Heap}(x:cV knd h a D)(k:∀o,h.get? a=some o->h'.get? a=some o):cV knd h' a D:=⟨x.1.at' k,x.2.at' k⟩
theorem CJ {D:List K}{k:K}{x:Value}{Q:Value->Shared->Prop}(hk:knd.is k x=true)(hx:x.scannable=true)(S:cV knd s.heap a D)(room:D.length+1<scanBound)
  (fin:∀h',Uz a s.heap h'->cV knd h' a (oneMore D k)->Q .none { s with heap:=h',toks:=s.toks+1 }):wpAny (model prog w) A (call (.builtin "set.add") [.ref a,x]) Q E s:=by
 refine wpAny_call_entry F.slot_set_add (show s.heap.SetOf knd a _ _ from S.1).typeIs F.entry_set_add ?_ (F.args_set_add_2 _ _)
 unfold Builtin.«set.add» Builtin.Frozenset.oneOther Builtin.Frozenset.addrOf setAdd
 simp only[List.isEmpty_nil,bind_assoc]
 refine wpAny_bind (wpAny_pure (wpAny_bind (wpAny_pure (wpAny_bind (wpAny_holding (wpAny_bind (knd.pyHash hk ?_)))))))
 exact yn (s:={ s with toks:=s.toks+1 }) hk hx S room fun b h' sb sk=>wpAny_pure ⟨_,rfl,fin h' sb sk⟩
end
noncomputable def Nh:PyData->Str
 | .str x=>x
 | d=>d.shown
section
variable {X:Cx}{pins:List (Addr×Obj)}{σ:St}{H:Hp}{s:Shared}
mutual
theorem qR (I:Inv X pins σ H s):∀(d:PyData) (x:V) (u:Value),Den X.K H d x->RelV x u->∃as,Reads s.heap u d as
 | .none,x,u,h,r=>by unfold Den at h;subst h;cases r;exact⟨_,.none⟩
 | .bool b,x,u,h,r=>by unfold Den at h;subst h;cases r;exact⟨_,.bool b⟩
 | .int i,x,u,h,r=>by unfold Den at h;subst h;obtain⟨t,rfl⟩:=r;exact⟨_,.int i t⟩
 | .str y,x,u,h,r=>by unfold Den at h;subst h;obtain⟨t,rfl⟩:=r;exact⟨_,.str y t⟩
 | .list ds,x,u,h,r=>by
  unfold Den at h
  obtain⟨a,vs,rfl,h1,h2⟩:=h
  cases r
  obtain⟨au,rv,pl,hz⟩:=I.list h1
  obtain⟨o,e1,e2,n,e3⟩:=pl.isList
  obtain⟨bs,hb⟩:=jP I ds vs au h2 rv
  exact⟨_,.list e1 e2 e3 (by simpa using hb)⟩
 | .tuple ds,x,u,h,r=>by
  unfold Den at h
  obtain⟨a,vs,rfl,h1,h2⟩:=h
  cases r
  obtain⟨au,rv,⟨o,e1,e2,n,e3⟩,hz⟩:=I.tuple h1
  obtain⟨bs,hb⟩:=jP I ds vs au h2 rv
  exact⟨_,.tuple e1 e2 e3 (by simpa using hb)⟩
 | .dict _,x,u,h,r=>by unfold Den at h;exact h.elim
theorem jP (I:Inv X pins σ H s):∀(ds:List PyData) (vs:List V) (us:List Value),aN X.K H ds vs->Vals vs us->∃as,ReadsAll s.heap us ds as
 | [],vs,us,h,r=>by unfold aN at h;subst h;cases r;exact⟨_,.nil⟩
 | d::ds,vs,us,h,r=>by
  unfold aN at h
  obtain⟨v,vr,rfl,h1,h2⟩:=h
  cases r with
  | cons r1 r2=>
   obtain⟨as,ha⟩:=qR I d _ _ h1 r1
   obtain⟨bs,hb⟩:=jP I ds _ _ h2 r2
   exact⟨_,.cons ha hb⟩
end
mutual
theorem nodict {K:Ja}{H:Hp}:∀(d:PyData) (x:V),Den K H d x->d.hasDict=false
 | .none,_,_=>rfl
 | .bool _,_,_=>rfl
 | .int _,_,_=>rfl
 | .str _,_,_=>rfl
 | .list ds,x,h=>by
  unfold Den at h
  obtain⟨a,vs,_,_,h2⟩:=h
  simp only[PyData.hasDict]
  exact sG ds vs h2
 | .tuple ds,x,h=>by
  unfold Den at h
  obtain⟨a,vs,_,_,h2⟩:=h
  simp only[PyData.hasDict]
  exact sG ds vs h2
 | .dict _,x,h=>by unfold Den at h;exact h.elim
theorem sG {K:Ja}{H:Hp}:∀(ds:List PyData) (vs:List V),aN K H ds vs->PyData.hasDictAll ds=false
 | [],_,_=>rfl
 | d::ds,vs,h=>by
  unfold aN at h
  obtain⟨v,r,_,h1,h2⟩:=h
  simp only[PyData.hasDictAll,nodict d v h1,sG ds r h2,Bool.or_false]
end
def Sg (K:Ja):List V->Hp->VK->Prop:=fun xs H Q=>dS fun(x:V) (d:PyData)=>xs=[x]/\Den K H d x/\d.showable=true/\d.depth<=40/\d.shown.length<=sizeLine/\Q (.str (Nh d)) H
theorem Oh (K:Ja)(hg:X.A.guards=some [])(hu:X.A.units+64<cLine)(hK:X.K=K:=by rfl):bE X (.type "str") (Sg K):=by
 subst hK
 intro pins s σ H xs us Q I r h
 obtain⟨x,d,rfl,hd,hs,hp,hz,q⟩:=h
 obtain⟨u,rfl,ru⟩:=vals1 r
 have nd:=nodict d x hd
 obtain⟨as,rd⟩:=qR I d x u hd ru
 cases d with
 | none=>cases rd;exact PySem.P.str_of_none ⟨.str _,H,I.tok _,⟨_,rfl⟩,q⟩
 | bool b=>cases rd;exact PySem.P.str_of_bool ⟨.str _,H,I.tok _,⟨_,rfl⟩,q⟩
 | int i=>
  cases rd
  refine PySem.P.str_of_int (by simpa [PyData.showable] using hs) ⟨.str _,H,I.tok _,⟨_,rfl⟩,q⟩
 | str y=>cases rd;exact PySem.P.str_of_str ⟨.str _,H,I,⟨_,rfl⟩,q⟩
 | list ds=>
  have Kr:∃a,u = .ref a:=by cases rd;exact⟨_,rfl⟩
  obtain⟨a,rfl⟩:=Kr
  exact str_of_reads rd hs (fun z=>by rw[nd] at z;cases z) hg (by omega) (fun _ _ e=>e) (fun h' u' tk k=>⟨.str _,H,I.kept k,⟨_,rfl⟩,q⟩) hz
 | tuple ds=>
  have Kr:∃a,u = .ref a:=by cases rd;exact⟨_,rfl⟩
  obtain⟨a,rfl⟩:=Kr
  exact str_of_reads rd hs (fun z=>by rw[nd] at z;cases z) hg (by omega) (fun _ _ e=>e) (fun h' u' tk k=>⟨.str _,H,I.kept k,⟨_,rfl⟩,q⟩) hz
 | dict _=>unfold Den at hd;exact hd.elim
end
structure pV (P:Program)(w:World)(K:Type)[DecidableEq K] where
 knd:PySem.KeyKind P w K
 v:K->V
 ok:∀k u,RelV (v k) u->knd.is k u=true/\u.scannable=true
noncomputable def Hw (P:Program)(w:World):pV P w Str:=⟨strKind P w,V.str,fun k u r=>by obtain⟨t,rfl⟩:=r;exact⟨strKind_is _ _ _ _,rfl⟩⟩
noncomputable def iB {P:Program}{w:World}{K:Type}[DecidableEq K](kv:pV P w K)(a:Addr)(D:List K):HO := .ext fun h=>cV kv.knd h a D
theorem zi {P:Program}{w:World}{K:Type}[DecidableEq K]{kv:pV P w K}{a:Addr}{D:List K}{H:Hp}{h:Heap}(x:cV kv.knd h a D):bz P w H h a (iB kv a D):=by
 have x':=x.1
 obtain⟨o,es,ep,t,e,rest⟩:=x'
 exact⟨x,⟨o,e⟩,fun h1 h2 y k=>cV.at' y k⟩
section
variable {prog:Program}{w:World}{A:Around}{R:Result->Shared->Prop}{s:Shared}
theorem xq (ex target iter:Expr)(ifs:List Expr)(scope:Scope)(pos:Pos)(it:Value)(D:Addr)(env:Env):
  compTurn (.SetComp ex [⟨target,iter,ifs,0⟩] scope pos) 0 it (.ref D) env=(do
   standAt iter.pos
   match <-pyNext it with
   | none=>pure (.done .next)
   | some v=>
    letOwnedTupleGo target it v
    assign target env v
    let mut ok:=true
    for c in ifs do
     if ok then ok <-isTrue c env (eval c env)
    if ok then
     (do
      let ev <-eval ex env
      standAt ex.pos
      let _ <-call (.builtin "set.add") [.ref D,ev])
    again (.compLoop (.SetComp ex [⟨target,iter,ifs,0⟩] scope pos) 0 it (.ref D) env)):=by rfl
theorem va {ex target iter:Expr}{ifs:List Expr}{scope:Scope}{pos:Pos}{it:Value}{D:Addr}{env:Env}(I:Nat->Shared->Prop)
  (turn:∀n s,I n s->wpAny (model prog w) A (pyNext it) (fun r s1=>match r with
   | none=>R (.ok .next) s1
   | some v=>wpAny (model prog w) A (letOwnedTupleGo target it v) (fun _ s1'=>wpAny (model prog w) A (assign target env v) (fun _ s2=>
     wpAny (model prog w) A (mH ifs env) (fun ok s3=>
      if ok=true then wpAny (model prog w) A (eval ex env) (fun ev s4=>wpAny (model prog w) A (call (.builtin "set.add") [.ref D,ev]) (fun _ s6=>∃m,m<n/\I m s6) lr s4) lr s3
      else ∃m,m<n/\I m s3) lr s2) lr s1') lr s1) lr s)
  (n:Nat) (h:I n s):codeAny (model prog w) A (.compLoop (.SetComp ex [⟨target,iter,ifs,0⟩] scope pos) 0 it (.ref D) env) R s:=by
 refine codeAny_loop rfl I (fun n s hI=>(show wpAny _ A (Sem.onRaise (compTurn (.SetComp ex [⟨target,iter,ifs,0⟩] scope pos) 0 it (.ref D) env) (fun x=>do noteFrame x env;theTreesLotGoes x)) _ _ s from wpAny_noted ?_)) n h
 rw[xq]
 refine wpAny_bind (wpAny_standAt (wpAny_bind (cp (bg (turn n s hI) fun r s1 h1 =>?_))))
 cases r with
 | none=>exact wpAny_pure h1
 | some v=>
  refine wpAny_bind (cp (bg h1 fun _ s1' Ib =>?_))
  refine wpAny_bind (cp (bg Ib fun _ s2 h2=>wpAny_bind (cp (bg h2 fun ok s3 h3 =>?_))))
  cases ok with
  | false=>exact wpAny_pure ⟨rfl,h3⟩
  | true=>
   exact wpAny_bind (wpAny_bind (cp (bg h3 fun ev s4 h4=>wpAny_bind (wpAny_standAt (wpAny_bind (cp (bg h4 fun _ s6 h6=>wpAny_pure (wpAny_pure ⟨rfl,h6⟩))))))))
theorem vP {ex target iter ifs rest scope pos it acc env}(h0:codeAny (model prog w) A (.compLoop (.SetComp ex (⟨target,iter,ifs,0⟩::rest) scope pos) 0 it acc env) R s)
  (h:wpAny (model prog w) A (pyIter it) (fun it' s'=>codeAny (model prog w) A (.compLoop (.SetComp ex (⟨target,iter,ifs,0⟩::rest) scope pos) 0 it' acc env) R s') (notedBy (model prog w) A env fun x s'=>R (.error x) s') s) :
  codeAny (model prog w) A (.compStart (.SetComp ex (⟨target,iter,ifs,0⟩::rest) scope pos) 0 it acc env) R s:=by
 refine codeAny_of_tree (show wpAny _ A ((compStart (.SetComp ex (⟨target,iter,ifs,0⟩::rest) scope pos) 0 it acc env).onRaise (fun x=>do noteFrame x env;standAt theWindowsPlace)) _ _ s from wpAny_notedAt ?_)
 unfold compStart
 refine wpAny_bind (m:=ask) (wpAny_askSetting (wpAny_ite ?_))
 split
 ·first
   | exact wpAny_bind (wpAny_pure (wpAny_pure ⟨rfl,h0⟩))
   | exact wpAny_pure ⟨rfl,h0⟩
 ·refine wpAny_bind (wpAny_rule ?_)
  refine wpAny_bind (m:=standAt iter.pos) (wpAny_standAt ?_)
  exact wpAny_bind (wpAny_mono h (fun it' s' h'=>wpAny_pure ⟨rfl,h'⟩) fun _ _ x=>x)
end
section
variable {X:Cx}{pins:List (Addr×Obj)}{σ:St}{H:Hp}{s:Shared}{a:Addr}{u:Value}{A:Around}{E:Value->Shared->Prop}{K:Type}[DecidableEq K]{kv:pV X.prog X.w K}
theorem PR {D:List K}{k:K}{Q:Value->Shared->Prop}(I:Inv X pins σ H s)(e:H a=some (iB kv a D))(l:D.length<=4000)(ry:RelV (kv.v k) u)
  (h:∀v s',Inv X pins σ (upd H a (iB kv a (oneMore D k))) s'->Q v s'):wpAny (model X.prog X.w) A (call (.builtin "set.add") [.ref a,u]) Q E s:=by
 have x:=(show bz X.prog X.w H s.heap a (iB kv a D) from I.bC a _ e).1
 obtain⟨h1,h2⟩:=kv.ok k u ry
 refine CJ h1 h2 x (by unfold scanBound;omega) fun h' sb y =>?_
 have y':=y.1
 obtain⟨o,es,ep,t,eo,_⟩:=y'
 exact h _ _ (ko I (by rw[e];exact True.intro) sb ⟨o,eo⟩ (zi y))
end
def En {P:Program}{w:World}{KT:Type}[DecidableEq KT](kv:pV P w KT)(J:It)(n:Nat)(js:List Nat)(g:TG)(tc:TT)(te:TE)(σ:St)(D:Addr)(H1:Hp)(fin:Hp->Prop):Prop:=
 ∃W:Nat->Nat->Hp->Prop,(∃m,W 0 m H1)/\∀i m H,W i m H ->
  (J.stop i H/\fin H) ∨
  (J.go i H/\∀x H',J.yld i H x H'->g x (Ju n none++cW σ js) H' fun σ2 H2=>tc σ2 H2 fun b H3=>
   if b=true then te σ2 H3 fun y H4=>∃ks k,H4 D=some (iB kv D ks)/\y=kv.v k/\ks.length<=4000/\∃m',m'<m/\W (i+1) m' (upd H4 D (iB kv D (oneMore ks k))) else ∃m',m'<m/\W (i+1) m' H3)
def LG {P:Program}{w:World}{KT:Type}[DecidableEq KT](kv:pV P w KT)(wi:TI)(n:Nat)(js:List Nat)(g:TG)(tc:TT)(te:TE):TE:=fun σ H Q=>wi σ H fun J H1=>∀D,H1 D=none->En kv J n js g tc te σ D (upd H1 D (iB kv D [])) fun H2=>Q (.ref D) H2
theorem FN {prog:Program}{w:World}{A:Around}{s:Shared}{Q:Value->Shared->Prop}{E:Value->Shared->Prop}(h:∀led,(w.params.followText "set-order" = false->led=true)->Q (.ref s.heap.objs.size) { s with heap:=s.heap.push (j7 led) }):wpAny (model prog w) A (newSet (.type "set")) Q E s:=by
 unfold newSet setsByText
 refine wpAny_bind (wpAny_bind (wpAny_askSetting (wpAny_pure ?_)))
 show wpAny _ _ (newObj _ _) _ _ _
 simp only[newObj]
 exact wpAny_bind (wpAny_alloc (wpAny_pure (h _ fun z=>by show(!w.params.followText "set-order")=true;rw[z];rfl)))
theorem wF {prog:Program}{w:World}{K:Type}[DecidableEq K]{knd:PySem.KeyKind prog w K}{h:Heap}{a:Addr}{led:Bool}(e:h.get? a=some (j7 led)):j8 knd h a []:=by
 have z:=(setObjOf_fresh (knd:=knd) led).setOf e (by decide)
 have q:(fun k:K=>decide (k∈([]:List K)))=fun _=>false:=by funext k;simp
 show Heap.SetOf knd _ _ (fun k=>decide (k∈([]:List K))) 0
 rw[q]
 exact z
theorem xC {prog:Program}{w:World}{K:Type}[DecidableEq K]{knd:PySem.KeyKind prog w K}{h:Heap}{a:Addr}{led:Bool}(l:w.params.followText "set-order" = false->led=true)(e:h.get? a=some (j7 led)):cV knd h a []:=⟨wF e,_,_,_,_,e,rfl,xu,l⟩
theorem xI {X:Cx}{KT:Type}[DecidableEq KT](kv:pV X.prog X.w KT){ex tg iter:Expr}{ifs:List Expr}{scope:Scope}{pos:Pos}{Nc Fc:List Str}{js:List Nat}{wi:TI}{g:TG}{tc:TT}{te:TE}{use:Option (Value->Sem Unit)}{QV:Value->Shared->Prop}
  (eS:X.calm=true) (c:fk X scope Nc Fc js) (hi:PI X tg iter wi)
  (hg:∀cl C s H fp,PG (j0 X Nc Fc scope cl C s H fp) tg g) (AL:∀cl C s H fp,HS (j0 X Nc Fc scope cl C s H fp) ifs tc) (HU:∀cl C s H fp,PE (j0 X Nc Fc scope cl C s H fp) ex te) (gk:Gk Nc.length g)
  {pins:List (Addr×Obj)} {s:Shared} {σ:St} {H:Hp} {fin:Addr->Hp->Prop} (I:Inv X pins σ H s)
  (h:wi σ H fun J H1=>∀D,H1 D=none->En kv J Nc.length js g tc te σ D (upd H1 D (iB kv D [])) (fin D))
  (behind:∀(C D:Addr) (m:Str->Option Value) (H2:Hp) (s2:Shared),Inv X pins σ H2 s2->s2.heap.Ns C m->dE X pins H2 C->fin D H2->compPost (model X.prog X.w) X.A X.xe use QV (.ref D) C (.ok .next) s2)
  (hs:∀x,foldedSetIterable iter X.env x=pure x) :
  wpAny (model X.prog X.w) X.A (comprehension (.SetComp ex [⟨tg,iter,ifs,0⟩] scope pos) scope X.env (firstIterPos [⟨tg,iter,ifs,0⟩] pos) (newSet (.type "set")) false (eval iter X.env) use) QV X.xe s:=by
 obtain⟨cl,hclos,dn,jg⟩:=jY (scope:=scope) (env:=X.env) fun y hy hf=>I.ok.has y.1 (c.free y hy hf)
 refine wpAny_comprehension_free (use:=use) rfl hs hclos c.kind c.names ?_
 refine bg (hi s σ H _ I h) fun v s1 h1=>bg h1 fun MG s2 h2 =>?_
 obtain⟨it,fp,tn,J,H2,e,I2,T,eK,f2,all⟩:=h2
 subst e
 refine FN fun led hled =>?_
 refine(wpAny_newFunctionEnv c.nocell (by intro y hy;simp at hy) (fun h1 hns1 hsb1 =>?_) c.kind)
 dsimp only at hns1 hsb1 ⊢
 have Hd:H2 s2.heap.objs.size=none:=I2.bC.fresh (Je _)
 have Ds:=I2.laid (a:=s2.heap.objs.size) (o:=iB kv s2.heap.objs.size []) (h':=s2.heap.push (j7 led)) (t':=s2.toks) (fun _ _ q=>Jb _ q) (Je _) (zi (xC hled (Jk _ rfl)))
 obtain⟨W,⟨m0,w0⟩,turn⟩:=all _ Hd
 have NT:∀b∈fp,∃o,s2.heap.get? b=some o:=fun b hb=>let ⟨o,e,_⟩:=T.obj 0 _ eK b hb; ⟨o,e⟩
 have pL:∀b∈fp,b<s2.heap.objs.size:=fun b hb=>let ⟨o,e⟩:=NT b hb;Jf e
 generalize hG:s2.heap.push (j7 led)=G at hns1 hsb1 Ds ⊢
 have toG:∀b o,s2.heap.get? b=some o->G.get? b=some o:=fun b o e=>hG▸Jb _ e
 have hC:G.objs.size=s2.heap.objs.size+1:=by rw[<-hG,J8]
 have old:∀b o,G.get? b=some o->h1.get? b=some o:=fun b o e=>
  hsb1.extBut b o (bR (Jf e) (Je _)) (Jb _ e)
 let D:Addr:=s2.heap.objs.size
 let s2':Shared:={ s2 with heap:=G,toks:=s2.toks }
 let H2':Hp:=upd H2 D (iB kv D [])
 have Kj:∀b∈fp,dE X pins H2' b:=fun b hb=>by
  obtain⟨a1,a2⟩:=f2 b hb
  refine⟨?_,a2⟩
  show upd H2 D (iB kv D []) b=none
  rw[ak (Jm (pL b hb))];exact a1
 have fo:∀b∈fp,∃o,s2'.heap.get? b=some o:=fun b hb=>let ⟨o,e⟩:=NT b hb; ⟨o,toG b o e⟩
 have RD:∀b∈fp,b<G.objs.size:=fun b hb=>by have:=pL b hb;rw[hC];exact Nat.lt_succ_of_lt this
 let Xc:Cx:=j0 X Nc Fc scope cl G.objs.size s2' H2' fp
 have jH:∀{H':Hp},(∀b∈fp,H' b=none)->∀b∈fp,dE Xc [] H' b:=fun{H'} hn b hb=>by
  refine⟨hn b hb,?_,?_,.inl hb,fun x a e =>?_,fun p hq =>?_⟩
  ·exact bR (RD b hb) (Je _)
  ·exact(oj Ds c dn jg (Je _) Kj fo).exfs b hb
  ·exact(f2 b hb).2.2.2.2.1 x a (dn _ _ e)
  ·have q:p∈([]:List (Addr×Obj))++[]:=hq
   simp at q
 have loop:∀t1,codeAny (model X.prog X.w) X.A (.compLoop (.SetComp ex [⟨tg,iter,ifs,0⟩] scope pos) 0 (.ref it) (.ref s2.heap.objs.size) (compEnvC scope cl G.objs.size X.env))
   (compPost (model X.prog X.w) X.A X.xe use QV (.ref s2.heap.objs.size) G.objs.size) { s2 with heap:=h1,toks:=t1 }:=by
  intro t1
  refine va (fun n s'=>∃i H',Inv Xc [] (Ju Nc.length none++cW σ js) H' s'/\tn i s'.heap/\(∀b∈fp,H' b=none)/\W i n H') ?_ m0
   ⟨0,H2',vR Ds c dn jg (Je _) Kj fo old hns1,T.keep _ _ _ eK (fun b hb o e=>old b o (toG b o e)),fun b hb=>(Kj b hb).1,w0⟩
  intro n s3
  refine ai.go ?_
  rintro i H3 I3 dv fr3 w3
  rcases turn i n H3 w3 with ⟨stop,qn⟩|⟨go,step⟩
  ·refine bg (T.done Xc rfl rfl rfl eS i _ s3 _ H3 lr I3 (jH fr3) dv stop) fun r s4 ⟨hr,I4⟩=>?_
   subst hr
   show compPost _ _ _ _ _ _ _ _ _
   refine ai.el (I4.loc) _ ?_
   rintro mC hmC _
   have NA:H3 G.objs.size=none:=I4.free
   have u:Un (gm X.stack) fp H2' H3 G s4.heap:=I4.base
   have wc:∀b∈fp,(b∈X.ex∨X.s₀.heap.objs.size<=b)/\b≠X.env.locals/\(∀x c,X.env.cells.lookup x=some c->c≠b)/\∀p∈X.pn++pins,p.1≠b:=fun b hb=>
    ⟨(f2 b hb).2.2.2.1,(f2 b hb).2.1,(f2 b hb).2.2.2.2.1,(f2 b hb).2.2.2.2.2⟩
   have Nz:s4.os=s2'.os:=I4.os
   have J4:Inv X pins σ H3 s4:=Ds.De (H':=H3) Nz u I4.bC I4.bare wc
   exact behind G.objs.size D mC H3 s4 J4 hmC (Ds.eB (Je _) NA) qn
  ·refine bg (T.item Xc rfl rfl rfl eS i _ s3 _ H3 lr I3 (jH fr3) dv go) fun r s4 hz_=>ai.el hz_ _ fun u hr h4 =>?_
   subst hr
   show wpAny _ _ (letOwnedTupleGo tg (.ref it) u) _ _ _
   refine bg h4 fun _ s5 hz_=>ai.el hz_ _ fun x H5 I5 r5 y5 cB fr5 =>?_
   have L8:=I5.pinned (jH fr5) (T.obj _ _ cB)
   refine bg (hg cl G.objs.size s2' H2' fp s5 _ H5 x u _ L8 r5 (gk _ _ _ _ (step x H5 y5))) fun _ s6 hz_=>ai.el hz_ _ fun σ6 H6 I6 q6 kσ kl =>?_
   refine bg (AL cl G.objs.size s2' H2' fp s6 σ6 H6 _ I6 q6) fun b s7 hz_=>ai.el hz_ _ fun H7 I7 q7 =>?_
   have later:∀{σ':St} {H':Hp} {s':Shared},Inv Xc ([]++fw fp s5.heap) σ' H' s'->tn (i+1) s'.heap/\∀b∈fp,H' b=none:=fun{σ' H' s'} Iz=>by
    refine⟨T.keep _ _ _ cB fun b hb o e=>(Iz.pin (b,o) (Jw _ (Jw _ (cK hb e)))).1,fun b hb =>?_⟩
    refine ai.el (T.obj _ _ cB b hb) _ ?_
    rintro o e d
    exact(Iz.pin (b,o) (Jw _ (Jw _ (cK hb e)))).2.1
   have back:∀{pl:List (Addr×Obj)} {H':Hp} {s':Shared},Inv Xc pl σ6 H' s'->Inv Xc pl (Ju Nc.length none++cW σ js) H' s':=fun{pl H' s'} Iz=>by
    refine Iz.weak (by rw[<-kl]) fun j v hj =>?_
    by_cases hn:j<Nc.length
    ·rw[Uj (by simpa using hn),Yc] at hj
     split at hj<;>cases hj
    ·rw[kσ j (by omega)];exact hj
   cases b with
   | false=>
    rw[if_neg Jl] at q7 ⊢
    refine ai.el (q7) _ ?_
    rintro m' Ab w7
    obtain⟨l1,l2⟩:=later I7
    exact⟨m',Ab,i+1,H7,back I7.eC,l1,l2,w7⟩
   | true=>
    rw[if_pos rfl] at q7 ⊢
    refine bg (HU cl G.objs.size s2' H2' fp s7 σ6 H7 _ I7 q7) fun yv s8 hz_=>ai.el hz_ _ fun y H8 I8 r8 q8 =>?_
    refine ai.el (q8) _ ?_
    rintro ks k eD ey hl m' Ab w9
    subst ey
    refine PR (X:=Xc) (kv:=kv) I8 eD hl r8 fun _ DL I10 =>?_
    obtain⟨l1,l2⟩:=later I10
    exact⟨m',Ab,i+1,_,back I10.eC,l1,l2,w9⟩
 exact vP (loop _) (T.self _ 0 _ _ _ (T.keep _ _ _ eK fun b hb o e=>old b o (toG b o e)) (loop _))
theorem Er {X:Cx}{KT:Type}[DecidableEq KT](kv:pV X.prog X.w KT){ex tg iter:Expr}{ifs:List Expr}{scope:Scope}{pos:Pos}{Nc Fc:List Str}{js:List Nat}{wi:TI}{g:TG}{tc:TT}{te:TE}
  (eS:X.calm=true) (c:fk X scope Nc Fc js) (hi:PI X tg iter wi) (gk:Gk Nc.length g)
  (hg:∀cl C s H fp,PG (j0 X Nc Fc scope cl C s H fp) tg g) (AL:∀cl C s H fp,HS (j0 X Nc Fc scope cl C s H fp) ifs tc) (HU:∀cl C s H fp,PE (j0 X Nc Fc scope cl C s H fp) ex te)
  (hs:∀x,foldedSetIterable iter X.env x=pure x:=by intro _;rfl) :
  PE X (.SetComp ex [⟨tg,iter,ifs,0⟩] scope pos) (LG kv wi Nc.length js g tc te):=by
 intro pins s σ H Q I h
 rw[arm_eval_SetComp]
 refine xI kv (use:=none) (fin:=fun D H2=>Q (.ref D) H2) eS c hi hg AL HU gk I h (fun C D m H2 s2 I2 hm hC q =>?_) hs
 refine⟨m,hm,fun h' hs' =>?_⟩
 exact⟨.ref D,_,I2.turned (it:=C) (t':=s2.toks) (fun b o hb e=>hs'.extBut b o hb e) hC.1 (hC.2.1) hC.2.2.2.1 hC.2.2.2.2.1 hC.2.2.2.2.2,rfl,q⟩
theorem A1 {X:Cx}{KT:Type}[DecidableEq KT](kv:pV X.prog X.w KT):bE X (.builtin "len") (fun xs H Q=>∃(a:Addr) (D:List KT),xs=[.ref a]/\H a=some (iB kv a D)/\Q (.int (D.length:Nat)) H):=by
 intro pins s σ H xs us Q I r h
 refine ai.el (h) _ ?_
 rintro a D rfl ha q
 refine ai.el (vals1 r) _ ?_
 rintro u rfl ru
 cases ru
 obtain⟨o,es,ep,t,h1,h2,h3,h4,h5,h6,h7,h8⟩:=(show bz X.prog X.w H s.heap a (iB kv a D) from I.bC a _ ha).1.1
 have hb:scanBound=4096:=rfl
 refine call_len_set h1 h2 h3 h7 (by omega) ⟨.int (D.length:Nat),H,I.tok _,⟨_,by rw[h8]⟩,q⟩
theorem CS {P:Program}{w:World}{KT:Type}[DecidableEq KT]{kv:pV P w KT}{J:It}{n:Nat}{js:List Nat}{g:TG}{tc:TT}{te:TE}{σ:St}{D:Addr}{H1:Hp}{fin:Hp->Prop}(N:Nat)(Pv:Nat->Hp->Prop)(h0:Pv 0 H1)
  (go:∀i H (Nx:Hp->Prop),i<N->Pv i H->(∀H',Pv (i+1) H'->Nx H')->J.go i H /\
   ∀x H',J.yld i H x H'->g x (Ju n none++cW σ js) H' fun σ2 H2=>tc σ2 H2 fun b H3=>if b=true then te σ2 H3 fun y H4=>∃ks k,H4 D=some (iB kv D ks)/\y=kv.v k/\ks.length<=4000/\Nx (upd H4 D (iB kv D (oneMore ks k))) else Nx H3)
  (stop:∀H,Pv N H->J.stop N H/\fin H):En kv J n js g tc te σ D H1 fin:=by
 refine⟨fun i m H=>m=N-i/\i<=N/\Pv i H,⟨N,by simp,Um _,h0⟩,?_⟩
 intro i m H
 refine ai.go ?_
 rintro rfl hi p
 by_cases hW:i<N
 ·obtain⟨g1,g2⟩:=go i H (fun H'=>∃m',m'<N-i/\(m'=N-(i+1)/\i+1<=N/\Pv (i+1) H')) hW p fun H' q=>⟨_,by omega,rfl,hW,q⟩
  exact .inr ⟨g1,fun x H' y=>g2 x H' y⟩
 ·have e:i=N:=by omega
  subst e
  exact .inl (stop H p)
section
variable {X:Cx}
theorem DV:Mr X "list.reverse" (fun x vs H Q=>∃l xs,x = .ref l/\vs=[]/\H l=some (.lst xs)/\∀H',AH H l (.lst xs.reverse) H'->Q .non H'):=by
 intro pins s σ H x vs v us Q I rx rv h
 obtain⟨l,xs,rfl,rfl,hH,q⟩:=h
 cases rx
 cases rv
 obtain⟨z,au,n,r,hl,e⟩:=I.yt hH
 refine call_meets F.slot_list_reverse ⟨_,e,rfl⟩ F.entry_list_reverse (F.args_list_reverse_1 _) (AutoListH.list_reverse_list_0 l au.toArray n (by rw[Js];omega)) ⟨e,?_⟩
 exact⟨.non,_,I.FI (its':=au.reverse) hH e (by simp) r.rev (by rw[List.length_reverse];omega),rfl,q _ ⟨rfl⟩⟩
theorem y3 {x:Str}{z:Str}{t:Tok}{pos:Pos}(hg:Gl X x)(hm:X.mg x=some (.str z t))(hd:(x==("__debug__" : Str))=false:=by decide):PE X (.Name x pos) (tC (.str z)):=rO (v := .str z) hg hm ⟨t,rfl⟩ hd
theorem kB {x:Str}{z:Int}{t:Tok}{pos:Pos}(hg:Gl X x)(hm:X.mg x=some (.int z t))(hd:(x==("__debug__" : Str))=false:=by decide):PE X (.Name x pos) (tC (.int z)):=rO (v := .int z) hg hm ⟨t,rfl⟩ hd
end
theorem kJ:∀{ss:List Str} {us:List Value},StrsAre us ss->Vals (ss.map V.str) us:=by
 intro ss us h
 induction h with
 | nil=>exact .nil
 | cons _ _ _ ih=>exact .cons ⟨_,rfl⟩ ih
theorem gQ:∀{ss:List Str} {us:List Value},Vals (ss.map V.str) us->StrsAre us ss
 | [],_,.nil =>.nil
 | _::_,_,.cons ⟨_,e⟩ t=>by subst e;exact .cons _ _ (gQ t)
section
variable {X:Cx}(K:Ja)
theorem sortedS (hK:X.K=K:=by rfl):bE X (.builtin "sorted") (fun xs H Q=>∃(p:Addr) (ss:List Str),xs=[.ref p]/\bb K H p (ss.map V.str)/\ss.length<64 /\
  ∀(ms:List Str) (q:Addr) (H':Hp),ms.Perm ss->PyProof.Rows.sortedS ms=true->gX H q (.lst (ms.map V.str)) H'->Q (.ref q) H'):=by
 subst hK
 intro pins s σ H xs us Q I r h
 obtain⟨p,ss,rfl,hq,hl,q⟩:=h
 obtain⟨u,rfl,ru⟩:=vals1 r
 cases ru
 obtain⟨au,rv,pl,hz⟩:=I.list hq
 have hn:au.length=ss.length:=by have:=rv.length;rw[Jc] at this;exact this.symm
 refine sorted_strs pl.isList (gQ rv) (by omega) fun out ms a1 a2 a3 =>?_
 obtain⟨e,he⟩:=sortedAll_at s.heap au out
 have hm:ms.length=ss.length:=a2.length_eq
 have hr:=kJ a1
 refine⟨.ref (s.heap.objs.size+1),_,I.laid (a:=s.heap.objs.size+1) (o := .lst (ms.map V.str)) (t':=s.toks) (fun _ _=>sortedAll_old) (Yr _) ⟨?_,out.toList,e,hr,?_⟩,rfl,q ms _ _ a2 a3 ⟨I.bC.fresh (Yr _),rfl⟩⟩
 ·rw[Jc];exact Jh (show ms.length<=64 by omega) (by decide)
 ·simpa [seqObj] using he
end
section
variable {X:Cx}
theorem mZ:∀{xs:List V} {us:List Value} (j:Nat),Vals xs us->Vals (xs.eraseIdx j) (us.eraseIdx j)
 | _,_,_,.nil=>by simp;exact .nil
 | _,_,0,.cons _ t=>by simpa using t
 | _,_,j+1,.cons h t=>by simpa using .cons h (mZ j t)
end
theorem PE.weak {X:Cx}{e:Expr}{t t':TE}(h:PE X e t)(w:∀ σ H Q,t' σ H Q->t σ H Q):PE X e t':=fun _ s σ H Q I q=>h s σ H Q I (w σ H Q q)
theorem PA.weak {X:Cx}{es:List Expr}{t t':TA}(h:PA X es t)(w:∀ σ H Q,t' σ H Q->t σ H Q):PA X es t':=fun _ _ s σ H Q I q=>h s σ H Q I (w σ H Q q)
noncomputable def newOf (H H':Hp):Hp:=fun a=>match H a with
 | none=>H' a
 | some _=>none
theorem jL {H H':Hp}{a:Addr}(h:H a=none):newOf H H' a=H' a:=by unfold newOf;rw[h]
theorem iu {H H':Hp}{a:Addr}{o:HO}(h:newOf H H' a=some o):H a=none/\H' a=some o:=by
 unfold newOf at h
 cases e:H a with
 | none=>rw[e] at h;exact⟨rfl,h⟩
 | some u=>rw[e] at h;cases h
theorem CN {H H':Hp}:ao (newOf H H') H':=fun _ _ h=>(iu h).2
theorem nX {H H1 H2:Hp}(s:ao H1 H2):ao (newOf H H1) (newOf H H2):=fun a o h=>by
 rw[jL (iu h).1];exact s a o (iu h).2
theorem xB {H H1 H2:Hp}(s:ao H H1):ao (newOf H1 H2) (newOf H H2):=fun a o h=>by
 rw[jL (s.free (iu h).1)];exact(iu h).2
def JH (K:Ja)(d:PyData):TE:=fun _ H Q=>∀v H',ao H H'->Den K (newOf H H') d v->Q v H'
noncomputable def zP (K:Ja)(ds:List PyData):TA:=fun _ H Q=>∀vs H',ao H H'->aN K (newOf H H') ds vs->Q vs H'
section
variable {X:Cx}{K:Ja}
theorem lit_int {i:Int}{j pos}:PE X (.Constant (.int i) j pos) (JH K (.int i)):=ah.weak fun σ H Q h=>h _ H (ao.refl _) (by unfold Den;rfl)
theorem DH:PA X [] (zP K []):=ae.weak fun σ H Q h=>h [] H (ao.refl _) (by unfold aN;rfl)
theorem dW {e:Expr}{es:List Expr}{d:PyData}{ds:List PyData}(h:PE X e (JH K d))(hs:PA X es (zP K ds))(l9:starEach (e::es) X.env=(false,eval e X.env)::starEach es X.env:=by rfl):PA X (e::es) (zP K (d::ds)):=
 (aa h hs l9).weak fun σ H Q q v H1 s1 d1 vs H2 s2 d2=>q (v::vs) H2 (s1.trans s2) (by
  unfold aN
  exact⟨v,vs,rfl,d1.same (nX s2),d2.same (xB s1)⟩)
theorem zD {K:Ja}{H:Hp}:∀{ds:List PyData} {vs:List V},aN K H ds vs->vs.length=ds.length
 | [],_,h=>by unfold aN at h;subst h;rfl
 | d::ds,vs,h=>by
  unfold aN at h
  obtain⟨v,r,rfl,h1,h2⟩:=h
  rw[Jn,Jn,zD h2]
theorem GF {es:List Expr}{ds:List PyData}{pos:Pos}(h:PA X es (zP K ds))(hl:ds.length<=1000:=by decide):PE X (.List es pos) (JH K (.list ds)):=
 (fE h).weak fun σ H Q q vs H1 s1 d1=>⟨Jh (by rw[zD d1];exact hl) (show 1000<=sizeLine by decide),fun p H' n=>q _ _ (s1.trans n.same) (by
  unfold Den
  exact⟨p,vs,rfl,bb.of (by rw[jL (s1.free n.nn)];exact n.at),d1.same (nX n.same)⟩)⟩
end
structure IE (K:Ja)(w:World)(a:Addr):Prop where
 ex:∃es n,K.lookup a=some ⟨.type "dict",none,.dict es n,#[]⟩/\PySem.W.KeysLit w.params es.toList
def Pd (K:Ja)(w:World)(td ty:TE):TE:=fun σ H Q=>td σ H fun x H1=>ty σ H1 fun y H2=>∃a k u v,x = .ref a/\y = .str k/\IE K w a/\Jg K a k=some (some u)/\RelV v u/\Q v H2
section
variable {X:Cx}{o i:Expr}{td ty:TE}{pos:Pos}
theorem FC (K:Ja)(w:World)(ho:PE X o td)(hi:PE X i ty)(hs:Mg i)(hK:X.K=K:=by rfl)(hw:X.w=w:=by rfl):PE X (.Subscript o i pos) (Pd K w td ty):=by
 subst hK hw
 intro pins s σ H Q I h
 refine zN PySem.F.slot_dict_getitem.lookup hs (bg (ho s σ H _ I h) fun u s1 hz_=>ai.el hz_ _ fun x H1 I1 rx q1=>bg (hi s1 σ H1 _ I1 q1) fun iv s2 hz_ =>?_)
 refine ai.el hz_ _ ?_
 clear hz_
 rintro y H2 I2 ry ⟨a,k,u',v,ex,ey,cd,e,rv,q2⟩
 subst ex ey
 obtain rfl:u=Value.ref a:=rx
 obtain⟨t,rfl⟩:=ry
 obtain⟨es,n,hl,hk⟩:=cd.ex
 have hm:=PySem.W.mapOf_K (prog:=X.prog) I2.je hl hk
 exact⟨hm.typeIs,wpAny_getItem_of (strKind_is X.prog X.w k t) hm (PySem.W.find_K hl e) ⟨v,H2,I2.tok _,rv,q2⟩⟩
end
noncomputable def inD (d:PyData)(ds:List PyData):Bool:=ds.any fun e=>PyData.eqv e d
def NG (K:Ja)(neg:Bool):R2:=fun x y H Q=>qi fun p xs d ds=>y = .ref p/\(bb K H p xs∨br K H p xs)/\Den K H d x/\aN K H ds xs/\d.canLay0=true/\(∀e∈ds,SeqAt.shaped e=true)/\Q (.bl (if neg then !inD d ds else inD d ds)) H
section
variable {X:Cx}{pins:List (Addr×Obj)}{σ:St}{H:Hp}{s:Shared}
open Classical in
noncomputable def Kh (h:Heap)(d:PyData)(u:Value):Bool:=if hd:∃e as,Reads h u e as/\e.canLay0=true/\e.depth<=64 then PyData.eqv hd.choose d else false
theorem Ae (hu:X.A.units+66<cLine)(I:Inv X pins σ H s){d:PyData}{x:V}{v:Value}(hd:Den X.K H d x)(rx:RelV x v)(hc:d.canLay0=true){e:PyData}{y:V}{u:Value}(he:Den X.K H e y)(ry:RelV y u)(hs:SeqAt.shaped e=true):
  SeqAt.EqAt X.A.in1 s u v (PyData.eqv e d):=by
 obtain⟨as,ra⟩:=hd.reads I rx
 obtain⟨bs,rb⟩:=he.reads I ry
 have Z8:=SeqAt.depth_of_shaped hs
 refine SeqAt.eqAt_reads e d X.A.in1 s u v bs as rb ra (SeqAt.canLay_of_shaped hs) hc ?_
 have:X.A.in1.units=X.A.units+1:=rfl
 have:min e.depth d.depth<=e.depth:=Nat.min_le_left _ _
 omega
theorem y2 (hu:X.A.units+66<cLine)(I:Inv X pins σ H s){d:PyData}{x:V}{v:Value}(hd:Den X.K H d x)(rx:RelV x v)(hc:d.canLay0=true):∀{ds:List PyData} {xs:List V} {us:List Value},aN X.K H ds xs->Vals xs us->(∀e∈ds,SeqAt.shaped e=true) ->
  ∃f:Value->Bool,(∀u∈us,SeqAt.EqAt X.A.in1 s u v (f u))/\us.any f=inD d ds:=by
 intro ds xs us h r hs
 refine⟨Kh s.heap d,?_⟩
 induction ds generalizing xs us with
 | nil=>unfold aN at h;subst h;cases r;exact⟨(fun u hu=>nomatch hu),rfl⟩
 | cons e ds ih=>
  unfold aN at h
  obtain⟨y,ys,rfl,h1,h2⟩:=h
  cases r with
  | @cons _ u _ us r1 r2=>
   obtain⟨g1,g2⟩:=ih h2 r2 fun e he=>hs e (Jo _ he)
   have Sk:=hs e Jr
   obtain⟨bs,rb⟩:=h1.reads I r1
   have hex:∃e as,Reads s.heap u e as/\e.canLay0=true/\e.depth<=64:=⟨e,bs,rb,SeqAt.canLay_of_shaped Sk,SeqAt.depth_of_shaped Sk⟩
   have ea:Kh s.heap d u=PyData.eqv hex.choose d:=by unfold Kh;rw[dif_pos hex]
   have V7:hex.choose=e:=SeqAt.Reads.unique _ _ _ _ _ hex.choose_spec.choose_spec.2.1 hex.choose_spec.choose_spec.1 rb
   refine⟨fun u' Kr =>?_,?_⟩
   ·rcases Jv.mp Kr with rfl|Kr
    ·rw[ea,V7];exact Ae hu I hd rx hc h1 r1 Sk
    ·exact g1 u' Kr
   ·rw[Yd,g2,ea,V7];rfl
end
section
variable {X:Cx}
theorem Bw (hu:X.A.units+66<cLine):dR X (compareOp .NotIn) (NG X.K true):=by
 intro pins s σ H x y v u Q I rx ry h
 obtain⟨p,xs,d,ds,rfl,hq,hd,hds,hc,hs,q⟩:=h
 cases ry
 rcases hq with hq|hq
 ·obtain⟨au,r,pl,hz⟩:=I.list hq
  obtain⟨f,g1,g2⟩:=y2 hu I hd rx hc hds r hs
  refine SeqAt.notIn_listAt f pl.isList (fun w hw=>g1 w (by simpa using hw)) ⟨.bl _,H,I,rfl,?_⟩
  rw[show au.toArray.any f=au.any f by simp,g2]
  exact q
 ·obtain⟨au,r,pl,hz⟩:=I.tuple hq
  obtain⟨f,g1,g2⟩:=y2 hu I hd rx hc hds r hs
  refine SeqAt.notIn_tupleAt f pl (fun w hw=>g1 w (by simpa using hw)) ⟨.bl _,H,I,rfl,?_⟩
  rw[show au.toArray.any f=au.any f by simp,g2]
  exact q
theorem FD (K:Ja)(hu:X.A.units+66<cLine)(hK:X.K=K:=by rfl):dR X (compareOp .NotIn) (NG K true):=by subst hK;exact Bw hu
end
section
variable {X:Cx}
def Pp (K:Ja):V->Option Int->Option Int->Hp->VK->Prop:=fun x lo hi H Q=>dS fun a xs=>x = .ref a/\br K H a xs /\
 ¬(HT.cP xs.length 0 lo=0/\HT.cP xs.length xs.length hi=xs.length)/\∀p H',gX H p (.tup (ie xs lo hi)) H'->Q (.ref p) H'
theorem DP (K:Ja)(hK:X.K=K:=by rfl):Cn X (Pp K):=by
 subst hK
 intro pins s σ H x v vl vu lo hi sl Q I rx hs pl pu q
 refine L3 s σ H x v vl vu lo hi sl Q I rx hs pl pu ?_
 obtain⟨a,xs,e,h,nw,q⟩:=q
 exact⟨a,xs,e,h,nw,fun p hp=>q p _ ⟨hp,rfl⟩⟩
end
theorem di {K:Ja}{a:Addr}{au:List Value}{n:Nat}{sl:Array (Option Value)}{xs:List V}(h:K.lookup a=some ⟨.type "tuple",none,.seq au.toArray n,sl⟩)(hv:Vals xs au)(hz:xs.length<=1000)(H:Hp):br K H a xs:=
 .inr ⟨_,au.toArray,n,h,rfl,rfl,rfl,Jh (by rw[Js,<-hv.length];exact hz) (show 1000<=sizeLine by decide),by simpa using hv⟩
theorem FE {k:Nat}{A:Around}(r:cY k A):A.units+66<cLine:=by have:=r.un;omega
theorem wB {X:Cx}{k:Nat}{x:Str}{ps:List Str}{sp:Sp}{p pos:Pos}(F:Fn X.prog X.w X.K X.mg X.base k x ps sp)(hr:cY k X.A)(hg:Gl X x)(sR:(x==("__debug__" : Str))=false:=by decide):
  PE X (.Call (.Name x p) [] [] pos) (ur sp [] E0 B8):=by
 obtain⟨f,fd,a,b,c,d⟩:=F.ex
 exact Cw a hr hg d c b .nil Ii sR
noncomputable abbrev dC:List Value:=[.type "ValueError",.type "Exception",.type "BaseException",.type "object"]
structure nz (K:Frag)(C:Addr)(f:Str):Prop where
 sa:findIn K (.ref C) "__setattr__" = some (some (.builtin "object.__setattr__"))
 na:findIn K (.ref C) f=some none
 mo:mroIn K C (.type "object")=some true
 cl:∃cd D,clsIn K C=some cd/\cd.mro = .ref C :: .ref D::dC/\cd.hasDict=true
def Raw (o:Obj):Prop:=∃t,o.data = .fields #[.ref t,.none,.none,.none,.bool false,.none]
theorem Raw.nc {o:Obj}(h:Raw o):notCls o=true:=by
 obtain⟨_,_,dt,_⟩:=o
 obtain⟨t,h⟩:=h
 cases h;rfl
noncomputable def vU (e C:Addr):HO := .ext fun h=>∃o,h.get? e=some o/\o.cls = .ref C/\o.dict=none/\Raw o
noncomputable def Bp (e C dx:Addr):HO := .ext fun h=>∃o,h.get? e=some o/\o.cls = .ref C/\o.dict=some dx/\Raw o
section
variable {prog:Program}{w:World}{A:Around}{K:Frag}{C e:Addr}{s:Shared}{E:Value->Shared->Prop}{f:Str}{v:Value}
theorem BH {o:Obj}{Q:Unit->Shared->Prop}(X:K.In s.heap)(O:nz K C f)(hx:s.heap.get? e=some o)(hc:o.cls = .ref C)(hd:o.dict=none)(hn:notCls o=true)
  (k:∀h' tk,h'.get? e=some { o with dict:=some s.heap.objs.size } -> h'.Ns1 s.heap.objs.size (fun y=>if y=f then some v else none)->(∀b ob,b≠e->s.heap.get? b=some ob->h'.get? b=some ob)->Q () { s with heap:=h',toks:=tk }) :
  wpAny (model prog w) A (setAttr (.ref e) f v) Q E s:=by
 have J:InstAt s.heap e o C none:=⟨hx,hc,hn,by rw[hd];trivial⟩
 refine ai.el (O.cl) _ ?_
 rintro cd D c1 c2 c3
 have SF:=PySem.F.store_object
 have top:Looks (model prog w) s.heap (isInstance (.ref e) (.type "object")) true:=J.type.andThen (looks_mroIn X O.mo)
 have UQ:Looks (model prog w) s.heap (mroOf (.ref C)) cd.mro:=(looks_clsIn X c1).andThen .now
 refine set_plain X J O.sa ?_
 refine codeAny_call_builtin SF.slot.plain SF.entry ?_
 refine @check_slot (model prog w) _ _ { s with toks:=s.toks+1 } "object.__setattr__" "object" "__setattr__" (.ref e) [.str f s.toks,v] [] _ SF.kind SF.split top (SF.args (.ref e) (.str f s.toks) v) ?_
 rw[osa_eq,refuse_eq]
 refine wpAny_bind (wpAny_bind (J.type.here (s:={ s with toks:=s.toks+1 }) (wpAny_bind (UQ.here (s:={ s with toks:=s.toks+1 }) ?_))))
 rw[c2,refuseLoop_ref,refuseLoop_ref,PySem.F.store_ValueError.passes]
 refine wpAny_pure (wpAny_bind (J.type.here (s:={ s with toks:=s.toks+1 }) ?_))
 refine wpAny_bind ((looks_findIn X O.na).here (s:={ s with toks:=s.toks+1 }) ?_)
 refine wpAny_bind (wpAny_pure ?_)
 show wpAny _ _ (storeInOwnDict (.ref e) (.ref C) (.str f s.toks) f v false) _ _ _
 obtain⟨oc,od,odt,zR⟩:=o
 dsimp only at hc hd
 subst hc hd
 have oV:=(Heap.get?_some_iff.mp hx).2
 have Cp:e≠s.heap.objs.size:=Jm (Jf hx)
 refine wpAny_bind (wpAny_pure (wpAny_bind ?_))
 show wpAny _ _ (instanceDict e true) _ _ _
 unfold instanceDict
 refine wpAny_bind (wpAny_loadPart hx ?_)
 refine wpAny_bind ((looks_clsIn X c1).here (s:={ s with toks:=s.toks+1 }) ?_)
 rw[c3]
 dsimp only
 rw[if_neg (by decide),if_neg (by simp[typeHasDict])]
 split
 ·rename_i c
  exact absurd hn (by simp[notCls])
 have Qi:(s.heap.push { cls := .type "dict",data := .dict #[] }).get? e=some ⟨.ref C,none,odt,zR⟩:=Jb _ hx
 refine wpAny_bind (wpAny_alloc' ?_)
 refine wpAny_bind (wpAny_update' Qi ?_)
 refine wpAny_pure ?_
 obtain⟨G,hG⟩:∃G,G=(s.heap.push { cls := .type "dict",data := .dict #[] }).update e fun o=>{ cls:=o.cls,dict:=some s.heap.objs.size,data:=o.data,slots:=o.slots }:=⟨_,rfl⟩
 have gd:G.get? s.heap.objs.size=some { cls := .type "dict",data := .dict #[] }:=by
  rw[hG]
  exact(Heap.get?_update_ne _ _ _ _ Cp.symm).trans (Heap.get?_push_at rfl rfl)
 have ge:G.get? e=some ⟨.ref C,some s.heap.objs.size,odt,zR⟩:=by
  rw[hG]
  refine J3 _ Qi ?_
  cases odt<;>first|rfl|exact oV
 have go:∀b ob,b≠e->s.heap.get? b=some ob->G.get? b=some ob:=fun b ob nb q=>by
  rw[hG]
  exact(Heap.get?_update_ne _ _ _ _ nb).trans (Jb _ q)
 have YR:G.Ns s.heap.objs.size (fun _=>none):=⟨_,#[],_,gd,rfl,(fun a ha=>absurd ha (by simp)),fun _=>rfl⟩
 rw[<-hG]
 show wpAny _ _ (storeInDict s.heap.objs.size (.str f s.toks) f v) _ _ _
 unfold storeInDict newKeyGuard
 refine wpAny_bind (wpAny_pure (wpAny_bind (wpAny_nsSet1 (Heap.Ns1.of_empty YR) fun h2 ns2 sb =>?_)))
 refine ai.el (ns2.count (Within.cons f v Within.nil)) _ ?_
 rintro oD eD pD hoD dD cD
 refine wpAny_bind (wpAny_lookBehind hoD ?_ ?_)
 ·rw[dD]
  refine pastItsLine_dict (Jh cD ?_)
  rw[Jn,Y5,sizeLine_eq]
  omega
 exact wpAny_pure (k h2 _ ((sb.2 e Cp).trans ge) ns2 fun b ob nb q=>(sb.2 b (Jm (Jf q))).trans (go b ob nb q))
end
section
variable {prog:Program}{w:World}{A:Around}{E:Value->Shared->Prop}{h0:Heap}{g0:Array GenState}{d0:Drawn}{t0:Nat}{os0:OsState}{nm qn:Str}{C N fi:Addr}{bs up tail:List Value}{hdct:Bool}{sn:List Str}{sub:List Value}{ab:Bool}
 {col:Option Bool} {dd:Option Addr} {k0 k1 k2 k3 k5:Option Value} {B newId Eh:String}
theorem Bn (FB:ExcBaseFacts B newId Eh tail)(TL:OwnTail h0 tail up){vs:List Value}{oi:Obj}{Q:Fin->Shared->Prop}
  (BG:h0.get? C=some (excClassObj nm qn C N bs up hdct sn sub ab col dd k0 k1 k2 k3 k5 newId)) (jr:∀h1:Heap,(∀b o,h0.get? b=some o->h1.get? b=some o)->Looks (model prog w) h1 (typeLookup (.ref C) "__init__") (some (.ref fi))) (RN:h0.get? fi=some oi) (Ie:oi.cls = .type "function") (fit:vs.length<=sizeLine)
  (run:∀h' e,Heap.MadeExcOf h0 h' e (.ref C) vs->wpAny (model prog w) A (call (.ref fi) (.ref e::vs)) (fun r s'=>r = .none/\Q (.done (.ret (.ref e))) s') E ⟨h',g0,d0,t0,os0⟩) :
  wpAny (model prog w) A (Builtin.«type.__call__» ⟨.ref C::vs,[]⟩) Q E ⟨h0,g0,d0,t0,os0⟩:=by
 repeat (first
  | with_reducible refine wpAny_loadPart_at BG ?_
  | with_reducible refine wpAny_madeBy_exc BG ?_
  | wp_step)
 refine codeAny_call_builtin_code (Code.quiet_builtin _ FB.quiet) ?_
 refine wpAny_check_new_subT FB TL BG ?_
 refine codeAny_exc_new_subT FB TL BG ?_ fit
 show wpAny _ _ _ _ _ _
 obtain⟨H1,e1⟩:∃H1,H1=(h0.push { cls := .type "tuple",data := .seq vs.toArray }).push { cls := .ref C,data := .fields #[.ref h0.objs.size,.none,.none,.none,.bool false,.none] }:=⟨_,rfl⟩
 have kp:∀b o,h0.get? b=some o->H1.get? b=some o:=fun b o z=>by
  rw[e1]
  exact Jb _ (Jb _ z)
 have me:H1.get? (h0.objs.size+1)=some { cls := .ref C,data := .fields #[.ref h0.objs.size,.none,.none,.none,.bool false,.none] }:=by
  rw[e1]
  heap_get
 have mt:H1.get? h0.objs.size=some { cls := .type "tuple",data := .seq vs.toArray }:=by
  rw[e1]
  exact Jb _ (Heap.get?_push_at rfl rfl)
 rw[<-e1]
 have S0:=kp _ _ BG
 have self:(Value.ref C::up).contains (.ref C)=true:=by simp
 unfold isInstance
 repeat (first
  | with_reducible refine wpAny_loadPart_at me ?_
  | (with_reducible refine wpAny_isSubtype_exc S0 ?_;rw[self])
  | wp_step)
 show wpAny _ _ (typeLookup (.ref C) _) _ _ _
 refine(jr H1 kp).at ?_
 refine wpAny_holding (wpAny_bind ?_)
 unfold bindSpecial
 refine wpAny_bind (wpAny_typeOf (T := "function") ⟨_,kp _ _ RN,Ie⟩ ?_)
 rw[if_pos (by decide)]
 have made:Heap.MadeExcOf h0 H1 (h0.objs.size+1) (.ref C) vs:=⟨kp,Heap.get?_none_of_le (Yr _),h0.objs.size,me,Heap.get?_none_of_le (Je _),mt⟩
 refine wpAny_pure (wpAny_bind (wpAny_mono (run H1 _ made) (fun r s' hr =>?_) fun _ _ x=>x))
 obtain⟨rfl,q⟩:=hr
 wp_walk
 exact q
theorem M5 (FB:ExcBaseFacts B newId Eh tail)(TL:OwnTail h0 tail up){vs:List Value}{oi:Obj}{Q:Value->Shared->Prop}
  (BG:h0.get? C=some (excClassObj nm qn C N bs up hdct sn sub ab col dd k0 k1 k2 k3 k5 newId)) (jr:∀h1:Heap,(∀b o,h0.get? b=some o->h1.get? b=some o)->Looks (model prog w) h1 (typeLookup (.ref C) "__init__") (some (.ref fi))) (RN:h0.get? fi=some oi) (Ie:oi.cls = .type "function") (fit:vs.length<=sizeLine)
  (run:∀h' e,Heap.MadeExcOf h0 h' e (.ref C) vs->wpAny (model prog w) (A.under (.builtin "type.__call__" ⟨.ref C::vs,[]⟩)) (call (.ref fi) (.ref e::vs)) (fun r s'=>r = .none/\Q (.ref e) s') E ⟨h',g0,d0,t0,os0⟩) :
  wpAny (model prog w) A (call (.ref C) vs) Q E ⟨h0,g0,d0,t0,os0⟩:=by
 have b1:=tc_lookup
 have b2:=tc_bind (.ref C)
 have ty:(⟨h0,g0,d0,t0,os0⟩:Shared).TypeIs (.ref C) "type":=⟨_,BG,rfl⟩
 refine wpAny_call (codeAny_of_tree ?_)
 show wpAny _ _ (callAny (.ref C) _) _ _ _
 repeat (any_goals (first
  | assumption
  | with_reducible refine wpAny_loadPart_at BG ?_
  | wp_step))
 refine⟨rfl,codeAny_call_builtin_at (Code.quiet_builtin _ (by decide +kernel)) entry_typeCall ?_⟩
 exact wpAny_check_type_call_sub BG (Bn FB TL BG jr RN Ie fit fun h' e m=>run h' e m)
end
section
variable {X:Cx}{pins:List (Addr×Obj)}{σ:St}{H:Hp}{s:Shared}{e C:Addr}
theorem Ge {P:Program}{w:World}{H:Hp}{h:Heap}{o:Obj}(h1:h.get? e=some o)(h2:o.cls = .ref C)(h3:o.dict=none)(h4:Raw o):bz P w H h e (vU e C):=
 ⟨⟨o,h1,h2,h3,h4⟩,⟨o,h1⟩,fun a b ⟨o,e1,r⟩ k=>⟨o,k _ e1,r⟩⟩
theorem Hu {P:Program}{w:World}{H:Hp}{h:Heap}{o:Obj}{dx:Addr}(h1:h.get? e=some o)(h2:o.cls = .ref C)(h3:o.dict=some dx)(h4:Raw o):bz P w H h e (Bp e C dx):=
 ⟨⟨o,h1,h2,h3,h4⟩,⟨o,h1⟩,fun a b ⟨o,e1,r⟩ k=>⟨o,k _ e1,r⟩⟩
theorem Inv.noObj (I:Inv X pins σ H s)(h:s.heap.get? e=none):H e=none:=by
 cases z:H e with
 | none=>rfl
 | some o=>obtain⟨q,hq⟩:=(I.bC e o z).ex;rw[hq] at h;cases h
theorem Inv.MT {h':Heap}{us:List Value}{tk:Nat}(I:Inv X pins σ H s)(m:Heap.MadeExcOf s.heap h' e (.ref C) us)(hex:X.ex=[]):Inv X pins σ (upd H e (vU e C)) { s with heap:=h',toks:=tk }:=by
 obtain⟨k,ne,t0,me,nt,mt⟩:=m
 have I2:Inv X pins σ H { s with heap:=h',toks:=tk }:=I.kept k
 have hs:∀b o,s.heap.get? b=some o->b≠e:=fun b o q z=>by rw[z,ne] at q;cases q
 refine I2.EN (I.noObj ne) (fun z =>?_) (fun x c q =>?_) (fun p hp =>?_) (fun b u q =>?_) (Ge me rfl rfl ⟨_,rfl⟩)
 ·obtain⟨m,⟨oL,_,_,q,_⟩,_⟩:=I.loc
  exact hs _ _ q z.symm
 ·obtain⟨v,o,e1,_⟩:=I.cell x c q
  exact hs _ _ e1
 ·exact hs _ _ (I.pin p hp).1
 ·obtain⟨o',q'⟩:=I.base.there b u q (by rw[hex];exact fun z=>nomatch z)
  exact hs _ _ q'
structure Lq (K:Frag)(C fi:Addr):Prop where
 cl:∃nm qn N bs D hdct sn sub ab col dd k0 k1 k2 k3 k5,K.lookup C=some (excClassObj nm qn C N bs (.ref D::dC) hdct sn sub ab col dd k0 k1 k2 k3 k5 "ValueError.__new__")/\∀h:Heap,K.In h->OwnTail h dC (.ref D::dC)
 ini:findIn K (.ref C) "__init__" = some (some (.ref fi))
 fn:∃oi:Obj,K.lookup fi=some oi/\oi.cls = .type "function"
 kp:keepIn K (.ref C)=true
def EW (C:Addr)(sp:Sp)(t:TA):TE:=fun σ H Q=>t σ H fun vs H1=>vs.length<=1000/\∀e,H1 e=none->sp (.ref e::vs) (upd H1 e (vU e C)) (fun v H2=>v = .non/\Q (.ref e) H2) E0
theorem BE {k:Nat}{fi:Addr}{fd:FuncData}{ps:List Str}{sp:Sp}{Q:VK}{us:List Value}{vs:List V}(M:Lq X.K C fi)(F:bh X.prog X.w X.K X.mg X.base eP k fi fd ps sp)(hr:cY (k+1) X.A)(hb:Binds X.K fd ps [])(hex:X.ex=[])
  (I:Inv X pins σ H s) (r:Vals vs us) (hl:vs.length<=1000) (h:∀e,H e=none->sp (.ref e::vs) (upd H e (vU e C)) (fun v H2=>v = .non/\Q (.ref e) H2) E0):wpAny (model X.prog X.w) X.A (call (.ref C) us) (EP X pins σ Q) X.xe s:=by
 refine ai.el (M.cl) _ ?_
 rintro nm qn N bs D hdct sn sub ab col dd k0 k1 k2 k3 k5 lk TL
 refine ai.el (M.fn) _ ?_
 rintro oi l2 ft
 have zu:=I.je
 refine M5 (h0:=s.heap) (g0:=s.gens) (d0:=s.drawn) (t0:=s.toks) (os0:=s.os) PySem.F.excBase_ValueError (TL _ zu) (zu _ _ lk) (fun h1 kp=>looks_findIn (fun a o z=>kp a o (zu a o z)) M.ini) (zu _ _ l2) ft (by rw[<-r.length];exact Jh hl (by decide)) fun h' e m =>?_
 have I2:Inv X pins σ (upd H e (vU e C)) { s with heap:=h',toks:=s.toks }:=I.MT m hex
 have hq:=h e (I.noObj m.2)
 have r2:Vals (V.ref e::vs) (Value.ref e::us) := .cons rfl r
 have hlen:(Value.ref e::us).length=ps.length:=by rw[<-r2.length];exact F.len _ _ _ _ hq
 have P7:=hb { s with heap:=h',toks:=s.toks } (Value.ref e::us) I2.je (by rw[Ym];exact hlen)
 rw[Ym] at P7
 refine wpAny_call (codeAny_mono (F.run _ X.stack { s with heap:=h',toks:=s.toks } _ ⟨Value.ref e::us,[]⟩ (Value.ref e::us) _ _ E0 (hr.make C us []) (I2.Mc.make C us []) P7 r2 hq) fun rr s' hq' =>?_)
 cases rr with
 | error x=>exact hq'.elim
 | ok fl=>
  cases fl with
  | ret u=>
   obtain⟨v,H',I3,rv,ev,q3⟩:=I2.after hq'
   subst ev
   exact⟨rv,⟨V.ref e,H',I3,rfl,q3⟩⟩
  | next=>exact hq'.elim
  | brk=>exact hq'.elim
  | cont=>exact hq'.elim
theorem Dn {k:Nat}{fi:Addr}{fd:FuncData}{ps:List Str}{sp:Sp}{x:Str}{p pos:Pos}{a:Expr}{as:List Expr}{t:TA}(M:Lq X.K C fi)(F:bh X.prog X.w X.K X.mg X.base eP k fi fd ps sp)(hr:cY (k+1) X.A)(hg:Gl X x)(hm:X.mg x=some (.ref C))
  (hb:Binds X.K fd ps []) (ha:PA X (a::as) t) (hex:X.ex=[]:=by rfl) (sR:(x==("__debug__" : Str))=false:=by decide) (he:starEach (a::as) X.env=(false,eval a X.env)::starEach as X.env:=by rfl) (qy:(backTo pos (starEach as X.env)).any (·.1)=false:=by rfl) :
  PE X (.Call (.Name x p) (a::as) [] pos) (EW C sp t):=by
 intro pins s σ H Q I h
 refine wpAny_Call_Name_kw (kh I hg hm ?_ sR)
 refine PySem.W.callWith_K (h₀:=X.base) I.ok.mod.zu M.kp (bg (ha s σ H _ I h) fun us s1 hz_=>ai.el hz_ _ fun vs H1 I1 r q=>⟨I1.je,?_⟩) he qy
 exact BE M F hr hb hex I1 r q.1 q.2
def OE (K:Frag)(to tv:TE)(f:Str):TS:=fun D σ H=>tv σ H fun v H1=>to σ H1 fun x H2=>∃e C,x = .ref e/\H2 e=some (vU e C)/\nz K C f/\∀dx,H2 dx=none->dx≠e->D.nx σ (upd (upd H2 e (Bp e C dx)) dx (.xd [(f,v)]))
theorem zI {o value:Expr}{f:Str}{to tv:TE}{pos pos':Pos}(ho:PE X o to)(hv:PE X value tv)(hs:swapsWith value (some (.Attribute o f pos')) pos.line X.env=pure false):PS X (.Assign [.Attribute o f pos'] value pos) (OE X.K to tv f):=by
 intro pins s σ H D I h
 refine plainObj_wpAny_Assign_Attribute (bg (hv s σ H _ I h) fun u s1 ⟨v,H1,I1,ru,q⟩=>bg (ho s1 σ H1 _ I1 q) fun ov s2 ⟨x,H2,I2,rx,e,C,ex,ee,S,q2⟩=>?_) hs
 subst ex
 obtain rfl:ov=Value.ref e:=rx
 obtain⟨ob,b1,b2,b3,b4⟩:=(show bz X.prog X.w H2 s2.heap e (vU e C) from I2.bC e _ ee).1
 have Cp:e≠s2.heap.objs.size:=Jm (Jf b1)
 refine BH I2.je S b1 b2 b3 b4.nc fun h' tk a1 a2 a3 =>?_
 have I3:Inv X pins σ (upd H2 e (Bp e C s2.heap.objs.size)) { s2 with heap:=h',toks:=tk }:=I2.write (x:=e) (e:=e) (by rw[ee];exact True.intro) (.inl rfl) a3 ⟨_,a1⟩ (Hu a1 b2 rfl b4)
 have hd:H2 s2.heap.objs.size=none:=I2.bC.fresh (Je _)
 have fp:=I2.eB (H':=H2) (Je _) hd
 refine⟨σ,_,?_,q2 _ hd Cp.symm⟩
 refine I3.EN (by rw[ak Cp.symm];exact hd) fp.2.1 fp.2.2.2.2.1 fp.2.2.2.2.2 (fun b u q z =>?_) ⟨_,a2,fun g =>?_⟩
 ·have:=Jf q
  rw[z] at this
  exact absurd (Jq this I2.sz) (J7 _)
 ·show kf (Y0 g [(f,v)]) (if g=f then some u else none)
  by_cases z:g=f
  ·rw[if_pos z,z,List.lookup_cons_self];exact ru
  ·rw[if_neg z]
   have:Y0 g [(f,v)]=none:=by
    rw[Ud]
    have:(g==f)=false:=by simpa using z
    rw[this];rfl
   rw[this];trivial
end
section
variable {K:Frag}{C D N:Addr}{nm qn:Str}{bs up:List Value}{hdct:Bool}{sn:List Str}{sub:List Value}{ab:Bool}{col:Option Bool}{dd:Option Addr}{k0 k1 k2 k3 k5:Option Value}
theorem zU (lk:K.lookup C=some (excClassObj nm qn C N bs up hdct sn sub ab col dd k0 k1 k2 k3 k5 "ValueError.__new__"))(made:excIn K C dC "ValueError.__new__" = true):nsOkIn K N=true/\nsIn K N "__init__" = some none:=by
 have h:(C==C && "ValueError.__new__" == "ValueError.__new__" && !false&&tailIn K dC up&&nsOkIn K N&&nsIn K N "__init__" == some none)=true:=by
  unfold excIn at made
  rw[lk] at made
  exact made
 have h1:=Bool.and_eq_true_iff.mp h
 exact⟨(Bool.and_eq_true_iff.mp h1.1).2,beq_iff_eq.mp h1.2⟩
theorem vG (lk:K.lookup C=some (excClassObj nm qn C N bs dC hdct sn sub ab col dd k0 k1 k2 k3 k5 "ValueError.__new__"))(made:excIn K C dC "ValueError.__new__" = true)(h:Heap)(zu:K.In h):OwnTail h dC (.ref C::dC):=by
 obtain⟨a,b⟩:=zU lk made
 exact .own (zu _ _ lk) (.of_isNs (isNs_of_in zu a)) (nsMap_none_of_in zu a b) .base
theorem vh {f:Str}(lk:K.lookup C=some (excClassObj nm qn C N bs (.ref D::dC) true sn sub ab col dd k0 k1 k2 k3 k5 "ValueError.__new__"))(sa:findIn K (.ref C) "__setattr__" = some (some (.builtin "object.__setattr__")))(na:findIn K (.ref C) f=some none)
  (mo:mroIn K C (.type "object")=some true):nz K C f:=by
 refine⟨sa,na,mo,⟨{ name:=nm,bases:=bs,mro := .ref C :: .ref D::dC,ns:=N,qualname:=qn,hasDict:=true,slotNames:=sn,subclasses:=sub,abstract:=ab,collection:=col,hasDel:=false },D,?_,rfl,rfl⟩⟩
 unfold clsIn
 rw[lk]
end
structure yX (K:Ja)(P:Program)(w:World)(a:Addr)(es:Array DictEntry)(n:Nat)(kvs:List (Str×Value)):Prop where
 l:K.lookup a=some ⟨.type "dict",none,.dict es n,#[]⟩
 k:PySem.W.KeysLit w.params es.toList
 p:Pairs (PySem.strKind P w) es.toList kvs
 nd:(kvs.map (·.1)).Nodup
 ns:(a==sysModules)=false
theorem yX.at {K:Ja}{P:Program}{w:World}{a:Addr}{es:Array DictEntry}{n:Nat}{kvs:List (Str×Value)}{h:Heap}(D:yX K P w a es n kvs)(X:K.In h):h.DictAt (PySem.strKind P w) a kvs n:=
 ⟨_,es,X _ _ D.l,⟨rfl,rfl,rfl⟩,rfl,fun e he=>by
  obtain⟨x,t,e1,e2⟩:=D.k.all e (Array.mem_toList_iff.mpr he)
  exact⟨x,by rw[e1];exact strKind_is P w x t,e2⟩,D.p,D.nd⟩
theorem Nj {X:Cx}:Fg X "int.bit_length" (fun x vs H Q=>∃a:Int,x = .int a/\vs=[]/\Q (.int ((PySem.Builtin.Int.intBits a:Nat):Int)) H):=by
 intro pins s σ H x vs v us Q I rx rv h
 obtain⟨a,rfl,rfl,q⟩:=h
 obtain⟨t,rfl⟩:=rx
 cases rv
 exact call_gives PySem.F.slot_int_bit_length (typeIs_int _ _ _) PySem.F.entry_int_bit_length (PySem.F.args_int_bit_length_1 _) (PySem.AutoIntG2.int_bit_length_int_0 a t) ⟨.int _,H,I.tok _,⟨_,rfl⟩,q⟩
structure um (h:Heap)(S it d:Addr)(i n ep:Nat):Prop where
 ex:∃(x0:Value) (f:Bool) (ok ov:Value),h.get? it=some { cls := .type "dict_itemiterator",dict:=none,data := .fields #[x0,.bool f,.ref d,.int i 0,.int n 0,.int ep 0,ok,ov],slots := #[] } /\ (x0 = .none∨∃(a:Addr) (oa:Obj),x0=rawInt a/\h.get? a=some oa/\a≠it/\a≠S)
section
variable {prog:Program}{w:World}{K:Type}[DecidableEq K]{knd:KeyKind prog w K}{A:Around}{E:Value->Shared->Prop}{s:Shared}
theorem AY {S it d:Addr}{i n ep:Nat}{key val:Value}{Q:Value->Shared->Prop}(st:um s.heap S it d i n ep)(hS:S<s.heap.objs.size)
  (q:∀h',um h' S it d i n ep->h'.get? s.heap.objs.size=some { cls := .type "tuple",data := .seq #[key,val] } -> h'.objs.size=s.heap.objs.size+1->(∀b o,b≠it->s.heap.get? b=some o->h'.get? b=some o)->Q (.ref s.heap.objs.size) { s with heap:=h' }) :
  wpAny (model prog w) A (Builtin.Dict_items.pairFromOwner (.ref it) 6 key val) Q E s:=by
 obtain⟨⟨x0,f,ok,ov,e,hx0⟩⟩:=st
 have low:it<s.heap.objs.size:=Jf e
 unfold Builtin.Dict_items.pairFromOwner
 refine wpAny_bind (wpAny_newTuple ?_)
 obtain⟨h2,eh2⟩:∃h2,h2=s.heap.push { cls := .type "tuple",data := .seq #[key,val] }:=⟨_,rfl⟩
 have t2:h2.get? s.heap.objs.size=some { cls := .type "tuple",data := .seq #[key,val] }:=by rw[eh2];exact Jk _ rfl
 have z2:h2.objs.size=s.heap.objs.size+1:=by rw[eh2,J8]
 have k2:∀b o,s.heap.get? b=some o->h2.get? b=some o:=fun b o x=>by rw[eh2];exact Jb _ x
 have e2:=k2 _ _ e
 rw[<-eh2]
 clear eh2
 refine wpAny_bind ?_
 unfold Builtin.Dict_items.ownedTupleIsFree
 rcases hx0 with rfl|⟨a,oa,rfl,ha,na,nS⟩
 ·refine wpAny_bind (wpAny_field (s:={ s with heap:=h2 }) e2 rfl (x := .none) rfl (wpAny_pure ?_))
  simp only[if_true]
  refine wpAny_bind (wpAny_field (s:={ s with heap:=h2 }) e2 rfl (x:=ok) rfl (wpAny_bind (wpAny_field (s:={ s with heap:=h2 }) e2 rfl (x:=ov) rfl ?_)))
  refine wpAny_bind (wpAny_setField_rec (s:={ s with heap:=h2 }) e2 (by simp) fun h3 e3 s3=>wpAny_bind (wpAny_setField_rec (s:={ s with heap:=h3 }) e3 (by simp) fun h4 e4 s4=>wpAny_bind (wpAny_setField_rec (s:={ s with heap:=h4 }) e4 (by simp) fun h5 e5 s5=>wpAny_bind (wpAny_setField_rec (s:={ s with heap:=h5 }) e5 (by simp) fun h6 e6 s6 =>?_))))
  have kk:∀b o,b≠it->h2.get? b=some o->h6.get? b=some o:=fun b o nb x=>s6.extBut b o nb (s5.extBut b o nb (s4.extBut b o nb (s3.extBut b o nb x)))
  have t6:=kk _ _ (Uc low) t2
  exact wpAny_bind (wpAny_letGo (wpAny_pure (q h6 ⟨_,_,_,_,e6,.inr ⟨_,_,rfl,t6,Uc low,Uc hS⟩⟩ t6 (by rw[s6.1,s5.1,s4.1,s3.1];exact z2) fun b o nb x=>kk b o nb (k2 b o x))))
 ·refine wpAny_bind (wpAny_field (s:={ s with heap:=h2 }) e2 rfl (x:=rawInt a) rfl ?_)
  show wpAny _ _ (loadIfAlive ((a:Int).toNat) >>= _) _ _ _
  rw[Yv]
  refine wpAny_bind (PySem.W.kdx_alive (k2 _ _ ha) ?_)
  simp only[Option.isNone_some,Us,if_false]
  refine wpAny_bind (wpAny_field (s:={ s with heap:=h2 }) e2 rfl (x := .bool f) rfl ?_)
  cases f
  ·refine wpAny_bind (wpAny_setField_rec (s:={ s with heap:=h2 }) e2 (by simp) fun h3 e3 s3=>wpAny_pure ?_)
   simp only[Us,if_false]
   exact wpAny_pure (q h3 ⟨_,_,_,_,e3,.inr ⟨a,oa,rfl,s3.extBut _ _ na (k2 _ _ ha),na,nS⟩⟩ (s3.extBut _ _ (Uc low) t2) (by rw[s3.1];exact z2) fun b o nb x=>s3.extBut b o nb (k2 b o x))
  ·refine wpAny_pure ?_
   simp only[Us,if_false]
   exact wpAny_pure (q h2 ⟨_,_,_,_,e2,.inr ⟨a,oa,rfl,k2 _ _ ha,na,nS⟩⟩ t2 z2 fun b o nb x=>k2 b o x)
theorem wq {S it d:Addr}{i ep:Nat}{kvs:List (K×Value)}{k:K}{v:Value}{Q:Option Value->Shared->Prop}(FY:um s.heap S it d i kvs.length ep)(hS:S<s.heap.objs.size)
  (hm:s.heap.DictAt knd d kvs ep) (hx:kvs[i]? = some (k,v))
  (hQ:∀key h',knd.is k key=true->um h' S it d (i+1) kvs.length ep->h'.get? s.heap.objs.size=some { cls := .type "tuple",data := .seq #[key,v] } -> h'.objs.size=s.heap.objs.size+1 ->
   (∀b o,b≠it->s.heap.get? b=some o->h'.get? b=some o)->Q (some (.ref s.heap.objs.size)) { s with heap:=h' }) :
  wpAny (model prog w) A (pyNext (.ref it)) Q E s:=by
 obtain⟨⟨x0,f,ok,ov,e,hx0⟩⟩:=FY
 obtain⟨od,es,hod,wX,hdd,hk,Ga,hn⟩:=id hm
 have hT:s.TypeIs (.ref it) "dict_itemiterator":=⟨_,e,rfl⟩
 have hsz:es.size=kvs.length:=by rw[<-Ga.length];simp
 have hW:i<es.size:=by rw[hsz];exact(Jt.mp hx).1
 obtain⟨hkey,hval⟩:=Ga.get? (e:=es[i]) (by simp[hW]) hx
 refine wpAny_bind (wpAny_attempt (wpAny_callSpecial?_slot (name:=Str.ofString "__next__") hT F.slot_dict_itemiterator_next (wpAny_call_entry F.slot_dict_itemiterator_next hT F.entry_dict_itemiterator_next ?_ (F.args_dict_itemiterator_next_1 _))))
 unfold Builtin.«dict_itemiterator.__next__»
 repeat (first
  | with_reducible refine wpAny_typeNameOfWhole_itemiter hT ?_
  | with_reducible refine wpAny_typeNameOf_itemiter hT ?_
  | with_reducible refine wpAny_fieldsOf e rfl ?_
  | with_reducible refine wpAny_dictEntries hod hdd ?_
  | with_reducible refine wpAny_dictEpoch hod hdd ?_
  | with_reducible refine wpAny_isOneOf_itemiter hT ?_
  | wp_step)
 simp only[show ¬((i:Int)<0) from by omega,if_false,Yv,J9 hW]
 refine wpAny_bind ?_
 refine wpAny_bind (wpAny_typeNameOfWhole_itemiter hT (wpAny_pure ?_))
 refine wpAny_bind (wpAny_isOneOf_itemiter hT ?_)
 change wpAny _ _ (Bind.bind (setField (.ref it) 3 (rawInt ((i:Int)+1))) _) _ _ _
 refine wpAny_bind (wpAny_setField_rec e (by simp) fun h1 e1 s1 =>?_)
 have z:((i+1:Nat):Int)=(i:Int)+1:=by omega
 have j1:um h1 S it d (i+1) kvs.length ep:=⟨x0,f,ok,ov,by rw[z];exact e1,hx0.imp id fun⟨a,oa,h1,h2,h3,h4⟩=>⟨a,oa,h1,s1.extBut _ _ h3 h2,h3,h4⟩⟩
 have IL:Shared.TypeIs { s with heap:=h1 } (.ref it) "dict_itemiterator":=⟨_,e1,rfl⟩
 refine wpAny_bind (wpAny_holding (wpAny_bind (wpAny_isOneOf_itemiter IL (wpAny_bind (wpAny_isOneOf_itemiter IL ?_)))))
 change wpAny _ _ (Builtin.Dict_items.pairFromOwner (.ref it) 6 es[i].key es[i].val) _ _ _
 refine AY (s:={ s with heap:=h1 }) j1 (by show S<h1.objs.size;rw[s1.1];exact hS) fun h' st' t' z' k' =>?_
 have zs:h1.objs.size=s.heap.objs.size:=s1.1
 show wpAny _ _ (ret (.ref h1.objs.size)) _ _ _
 rw[zs] at t' z' ⊢
 refine wpAny_pure ⟨_,rfl,wpAny_pure (hQ _ h' hkey st' (by rw[<-hval];exact t') z' fun b o nb x=>k' b o nb (s1.extBut b o nb x))⟩
theorem xc {S it d:Addr}{i ep:Nat}{kvs:List (K×Value)}{Q:Option Value->Shared->Prop}(hh:A.handled=none)(FY:um s.heap S it d i kvs.length ep)
  (hm:s.heap.DictAt knd d kvs ep) (hx:kvs[i]? = none) (hQ:∀h',Heap.ExtBut it s.heap h'->Q none { s with heap:=h' }) :
  wpAny (model prog w) A (pyNext (.ref it)) Q E s:=by
 obtain⟨⟨x0,f,ok,ov,e,hx0⟩⟩:=FY
 obtain⟨od,es,hod,wX,hdd,hk,Ga,hn⟩:=id hm
 have hT:s.TypeIs (.ref it) "dict_itemiterator":=⟨_,e,rfl⟩
 have hsz:es.size=kvs.length:=by rw[<-Ga.length];simp
 have Xb:es.size<=i:=by rw[hsz];simpa using hx
 refine wpAny_bind (wpAny_attempt (wpAny_callSpecial?_slot (name:=Str.ofString "__next__") hT F.slot_dict_itemiterator_next (wpAny_call_entry F.slot_dict_itemiterator_next hT F.entry_dict_itemiterator_next ?_ (F.args_dict_itemiterator_next_1 _))))
 unfold Builtin.«dict_itemiterator.__next__»
 repeat (first
  | with_reducible refine wpAny_typeNameOfWhole_itemiter hT ?_
  | with_reducible refine wpAny_fieldsOf e rfl ?_
  | with_reducible refine wpAny_dictEntries hod hdd ?_
  | with_reducible refine wpAny_dictEpoch hod hdd ?_
  | wp_step)
 simp only[show ¬((i:Int)<0) from by omega,if_false,Yv,Yj Xb]
 refine wpAny_bind ?_
 refine wpAny_bind (wpAny_typeNameOfWhole_itemiter hT (wpAny_pure ?_))
 change wpAny _ _ (Bind.bind (setField (.ref it) 2 .none) _) _ _ _
 refine wpAny_bind (wpAny_setField_rec e (by simp) fun h1 e1 s1 =>?_)
 wp_walk
 refine wpAny_raiseNew_none hh (wpAny_bind (wpAny_isInstance (T := "StopIteration") (b:=true) ⟨_,Jk _ rfl,rfl⟩ isSubtype_stop (wpAny_pure (hQ _ fun b o nb x =>?_))))
 exact Jb _ (Jb _ (s1.extBut b o nb x))
end
structure IT (prog:Program)(w:World)(A:Around)(it S:Addr)(fp:Addr->Prop)(n:Nat)(P:Nat->Value->Heap->Prop)(R:Value->Value->Prop)(St:Nat->Heap->Prop):Prop where
 sfp:¬fp S
 item:∀i (s:Shared) (Q:Option Value->Shared->Prop) (E:Value->Shared->Prop),i<n->St i s.heap->S<s.heap.objs.size ->
  (∀v h' tk,Keeps s.heap h' fp->St (i+1) h'->P i v h'->(∀j u,P j u s.heap->R u v)->Q (some v) { s with heap:=h',toks:=tk })->wpAny (model prog w) A (pyNext (.ref it)) Q E s
 stop:∀(s:Shared) (Q:Option Value->Shared->Prop) (E:Value->Shared->Prop),St n s.heap->S<s.heap.objs.size->(∀h' tk,Keeps s.heap h' fp->Q none { s with heap:=h',toks:=tk })->wpAny (model prog w) A (pyNext (.ref it)) Q E s
 keepS:∀i h h',St i h->Keeps h h' (· = S)->St i h'
 keepP:∀j v h h',P j v h->Keeps h h' (fun b=>fp b∨b=S)->P j v h'
section
variable {prog:Program}{w:World}{A:Around}{it S:Addr}{fp:Addr->Prop}{n:Nat}{P:Nat->Value->Heap->Prop}{R:Value->Value->Prop}{St:Nat->Heap->Prop}
theorem pf (Fd:IT prog w A.in1 it S fp n P R St)(hn:n<=sizeLine){s:Shared}{Z:Result->Shared->Prop}{res:Value}{g:Heap}(fin:mG g S fp n P R s (Z (.ok (.ret res)))):
  ∀(k i:Nat) (h:Heap) (tk:Nat) (acc:Array Value) (c:Nat),i+k=n->St i h->nR h S i P R acc c->Keeps g h (fun b=>fp b∨b=S) ->
   codeAny (model prog w) A (.builtin "list.extend.loop" ⟨[.ref S,.ref it,res],[]⟩) Z { s with heap:=h,toks:=tk }
 | 0,i,h,tk,acc,c,hk,l9,G,kp=>by
  have e:i=n:=by omega
  subst e
  refine codeAny_builtin PySem.F.entry_extend_loop ?_
  rw[Around.under_plainId PySem.F.plain_extend_loop _]
  refine wpAny_bind (Fd.stop { s with heap:=h,toks:=tk } _ _ l9 (Jf G.ob) fun h' tk' k'=>wpAny_pure ?_)
  exact fin h' tk' acc c (fun b o nb q=>k' b o (fun z=>nb (.inl z)) (kp b o nb q)) ⟨k' _ _ Fd.sfp G.ob,G.sz,G.pw,fun j v e=>Fd.keepP _ _ _ _ (G.all j v e) fun b o nb q=>k' b o (fun z=>nb (.inl z)) q⟩
 | k+1,i,h,tk,acc,c,hk,l9,G,kp=>by
  refine codeAny_builtin PySem.F.entry_extend_loop ?_
  rw[Around.under_plainId PySem.F.plain_extend_loop _]
  refine wpAny_bind (Fd.item i { s with heap:=h,toks:=tk } _ _ (by omega) l9 (Jf G.ob) fun v h' tk' k' st' pv rv =>?_)
  have N2:=k' _ _ Fd.sfp G.ob
  have other:Keeps h' (h'.update S (Obj.mapSeq (·.push v))) (· = S):=fun b o nb q=>(J5 _ _ (Ne.symm nb)).trans q
  have k2:Keeps h (h'.update S (Obj.mapSeq (·.push v))) (fun b=>fp b∨b=S):=fun b o nb q=>other b o (fun z=>nb (.inr z)) (k' b o (fun z=>nb (.inl z)) q)
  have sz:=G.sz
  refine wpAny_bind (wpAny_updateSeq N2 rfl (wpAny_pure ⟨plainId_quiet PySem.F.plain_extend_loop _,?_⟩) (by rw[sz];omega) (by show(acc.push v).size<=sizeLine+1;rw[Array.size_push,sz];omega))
  refine pf Fd hn fin k (i+1) _ tk' (acc.push v) _ (by omega) (Fd.keepS _ _ _ st' other) ⟨J3 _ N2 rfl,by rw[Array.size_push,sz],?_,fun j u e =>?_⟩ (fun b o nb q=>k2 b o nb (kp b o nb q))
  ·rw[Array.toList_push]
   refine Ys.mpr ⟨G.pw,List.pairwise_singleton _ _,fun a ha b hb =>?_⟩
   obtain⟨j,hj⟩:=Ut.mp ha
   rw[Jz.mp hb]
   exact rv j a (G.all j a (by simpa using hj))
  ·by_cases hj:j<i
   ·rw[Array.getElem?_push_lt (by omega)] at e
    exact Fd.keepP _ _ _ _ (G.all j u (by rw[J9 (by omega)];exact e)) k2
   ·have Lj:j=i:=by
     have:=(Uv.mp e).1
     rw[Array.size_push] at this
     omega
    subst Lj
    have e':(acc.push v)[acc.size]? = some u:=by rw[sz];exact e
    rw[Array.getElem?_push_size] at e'
    cases e'
    exact Fd.keepP _ _ _ _ pv fun b o nb q=>other b o (fun z=>nb (.inr z)) q
end
section
variable {prog:Program}{w:World}{K:Type}[DecidableEq K]{knd:KeyKind prog w K}
abbrev kQ (knd:KeyKind prog w K)(it S:Addr)(kvs:List (K×Value))(j:Nat)(v:Value)(h:Heap):Prop:=∃(a:Addr) (k:K) (key val:Value),v = .ref a/\S<a/\it<a/\kvs[j]? = some (k,val)/\knd.is k key=true/\a<h.objs.size/\h.get? a=some { cls := .type "tuple",data := .seq #[key,val] }
theorem yz {A:Around}{it d S:Addr}{kvs:List (K×Value)}{ep:Nat}(hh:A.handled=none)(n1:it≠S)(n2:d≠it)(n3:d≠S):
  IT prog w A it S (· = it) kvs.length (kQ knd it S kvs) iW (fun i h=>um h S it d i kvs.length ep/\h.DictAt knd d kvs ep) where
 sfp:=fun z=>n1 z.symm
 item:=fun i s Q E hi st hS q=>by
  obtain⟨st,hm⟩:=st
  have low:it<s.heap.objs.size:=by obtain⟨⟨_,_,_,_,e,_⟩⟩:=st;exact Jf e
  refine wq st hS hm (k:=kvs[i].1) (v:=kvs[i].2) (Jd hi) fun key h' hk st' t' z' k' =>?_
  refine q _ h' s.toks (fun b o nb x=>k' b o nb x) ⟨st',?_⟩ ⟨_,_,key,_,rfl,hS,low,Jd hi,hk,by rw[z'];exact Nat.lt_succ_self _,t'⟩ fun j u hu =>?_
  ·obtain⟨o,es,ho,r⟩:=hm
   exact⟨o,es,k' _ _ n2 ho,r⟩
  ·refine ai.el (hu) _ ?_
   rintro a _ _ _ rfl _ _ _ _ ha _
   exact⟨a,_,rfl,rfl,ha⟩
 stop:=fun s Q E st hS q=>by
  obtain⟨st,hm⟩:=st
  exact xc hh st hm (List.getElem?_eq_none (Je _)) fun h' kb=>q h' s.toks fun b o nb x=>kb b o nb x
 keepS:=fun i h h' st k=>by
  obtain⟨⟨⟨x0,f,ok,ov,e,hx⟩⟩,⟨o,es,ho,r⟩⟩:=st
  exact⟨⟨x0,f,ok,ov,k _ _ n1 e,hx.imp id fun⟨a,oa,h1,h2,h3,h4⟩=>⟨a,oa,h1,k _ _ h4 h2,h3,h4⟩⟩,⟨o,es,k _ _ n3 ho,r⟩⟩
 keepP:=fun j v h h' p k=>by
  refine ai.el (p) _ ?_
  rintro a kk key val h1 h2 h3 h4 h5 h6 h7
  have z:=k a _ (fun z=>z.elim (fun z=>J7 _ (z▸h3)) fun z=>J7 _ (z▸h2)) h7
  exact⟨a,kk,key,val,h1,h2,h3,h4,h5,Jf z,z⟩
theorem AB:isSubtype (.type "dict_items") (.type "dict_items")=pure true:=by
 first|rfl|decide|(unfold isSubtype;rfl)
theorem ux {A:Around}{S vw d:Addr}{kvs:List (K×Value)}{ep:Nat}(hh:A.in1.handled=none){s:Shared}{Z:Result->Shared->Prop}{res:Value}{c₀:Nat}(hv:s.heap.IsItemsView vw d)(hm:s.heap.DictAt knd d kvs ep)(hn:kvs.length<=sizeLine)
  (Ql:vw≠S) (Qf:d≠S) (hS:s.heap.get? S=some { cls := .type "list",data := .seq #[] c₀ })
  (fin:∀h' tk acc c,Keeps s.heap h' (· = S)->nR h' S kvs.length (kQ knd s.heap.objs.size S kvs) iW acc c->Z (.ok (.ret res)) { s with heap:=h',toks:=tk }) :
  wpAny (model prog w) A.in1 (Builtin.List.listExtendWith (.ref S) (.ref vw) res) (tM prog w A Z) (fun e s'=>Z (.error e) s') s:=by
 have hT:=hv.typeIs
 have Dr:Builtin.List.listSameRef (.ref S) (.ref vw)=false:=by simp[Builtin.List.listSameRef,Ne.symm Ql]
 unfold Builtin.List.listExtendWith
 refine wpAny_bind (wpAny_typeOf hT ?_)
 simp only[Dr,show(Value.type "dict_items" == Value.type "list")=false by decide,show(Value.type "dict_items" == Value.type "tuple")=false by decide,Bool.or_false,Us,if_false]
 refine wpAny_bind (wpAny_pyIter_items hv hm ?_)
 obtain⟨h1,eh1⟩:∃h1,h1=s.heap.push { cls := .type "dict_itemiterator",data := .fields #[.none,.bool false,.ref d,.int 0 0,.int kvs.length 0,.int ep 0,.none,.none] }:=⟨_,rfl⟩
 have k1:∀b o,s.heap.get? b=some o->h1.get? b=some o:=fun b o x=>by rw[eh1];exact Jb _ x
 have j1:um h1 S s.heap.objs.size d 0 kvs.length ep:=⟨.none,false,.none,.none,by rw[eh1];exact Jk _ rfl,.inl rfl⟩
 rw[<-eh1]
 clear eh1
 have IL:Shared.TypeIs { s with heap:=h1 } (.ref vw) "dict_items":=by
  obtain⟨o,ho,hc,_⟩:=hv
  exact⟨o,k1 _ _ ho,hc⟩
 have hint:∀(Q:Bool->Shared->Prop),Q false { s with heap:=h1 } -> wpAny (model prog w) A.in1 (Builtin.List.listLengthHint (.ref vw)) Q (fun e s'=>Z (.error e) s') { s with heap:=h1 }:=fun Q q=>by
  unfold Builtin.List.listLengthHint
  refine wpAny_bind (wpAny_specialOf IL F.slot_dict_items_len.lookup ?_)
  refine wpAny_bind (wpAny_isInstance (T := "dict_items") (b:=true) IL AB ?_)
  refine wpAny_ite_split (fun z=>absurd z (by decide)) fun _=>wpAny_ite_split (fun _ =>?_) fun z=>absurd (show _=true by decide +kernel) z
  exact wpAny_bind (wpAny_typeOf IL (wpAny_pure q))
 refine wpAny_bind (wpAny_holding (hint _ ?_))
 have mM:=k1 _ _ hS
 have low:=Jf hS
 have nS:s.heap.objs.size≠S:=Uc low
 have Vx:d<s.heap.objs.size:=hm.lt_size
 have go:∀(h:Heap) (c tk:Nat),Keeps h1 h (· = S)->h.get? S=some { cls := .type "list",data := .seq #[] c } -> codeAny (model prog w) A (.builtin "list.extend.loop" ⟨[.ref S,.ref s.heap.objs.size,res],[]⟩) Z { s with heap:=h,toks:=tk }:=
  fun h c tk k o=>by
   have Fd:=yz (knd:=knd) (kvs:=kvs) (ep:=ep) (A:=A.in1) hh nS (Jm Vx) Qf
   obtain⟨od,es,ho,r⟩:=hm
   refine pf Fd hn (g:=h1) (fun h' tk acc c k' G=>fin h' tk acc c (fun b o nb q=>k' b o (fun z=>z.elim (fun z=>J7 _ (z▸Jf q)) nb) (k1 b o q)) G) kvs.length 0 h tk #[] c (by omega) (Fd.keepS _ _ _ ⟨j1,od,es,k1 _ _ ho,r⟩ k) ⟨o,rfl,.nil,fun j v e=>by simp at e⟩ fun b o nb q=>k b o (fun z=>nb (.inr z)) q
 refine wpAny_ite_split (fun _ =>?_) fun z=>absurd (show _=true by decide +kernel) z
 refine wpAny_bind (wpAny_rule (wpAny_bind ?_))
 have o1:=J3 (Obj.mapSeq (·.push Value.none)) mM rfl
 have o2:=J3 (Obj.mapSeq (·.pop)) o1 rfl
 refine wpAny_bind (wpAny_updateSeq (s:={ s with heap:=h1 }) mM rfl (wpAny_updateSeq (hz:=by seq_fits) o1 rfl (wpAny_pure ⟨plainId_quiet PySem.F.plain_extend_loop _,go _ _ _ (fun b o nb q =>?_) o2⟩)))
 exact(J5 _ _ (Ne.symm nb)).trans ((J5 _ _ (Ne.symm nb)).trans q)
theorem Cf {A:Around}{S vw d:Addr}{kvs:List (K×Value)}{ep:Nat}(hh:A.in1.handled=none){s:Shared}{Z:Result->Shared->Prop}(hv:s.heap.IsItemsView vw d)(hm:s.heap.DictAt knd d kvs ep)(hn:kvs.length<=sizeLine)
  (Ql:vw≠S) (Qf:d≠S) (hS:s.heap.get? S=some { cls := .type "list",data := .seq #[] })
  (fin:∀h' tk acc c,Keeps s.heap h' (· = S)->nR h' S kvs.length (kQ knd s.heap.objs.size S kvs) iW acc c->Z (.ok (.ret .none)) { s with heap:=h',toks:=tk }) :
  wpAny (model prog w) A.in1 (Builtin.«list.__init__» ⟨[.ref S,.ref vw],[]⟩) (tM prog w A Z) (fun e s'=>Z (.error e) s') s:=by
 refine wpAny_bind ?_
 unfold Builtin.List.listItems
 refine wpAny_bind (wpAny_seqItems hS rfl (wpAny_pure ?_))
 have o1:=J3 (Obj.mapSeq (fun _=>(#[]:Array Value))) hS rfl
 have k1:Keeps s.heap (s.heap.update S (Obj.mapSeq (fun _=>(#[]:Array Value)))) (· = S):=fun b o nb q=>(J5 _ _ (Ne.symm nb)).trans q
 refine wpAny_bind (wpAny_updateSeq hS rfl (wpAny_bind (wpAny_letGo ?_)))
 have hz:(s.heap.update S (Obj.mapSeq (fun _=>(#[]:Array Value)))).objs.size=s.heap.objs.size:=Heap.size_update ..
 obtain⟨ov,hov,c1,c2⟩:=hv
 obtain⟨od,es,ho,r⟩:=hm
 refine ux (knd:=knd) (kvs:=kvs) (ep:=ep) (s:={ s with heap:=_ }) hh ⟨ov,k1 _ _ Ql hov,c1,c2⟩ ⟨od,es,k1 _ _ Qf ho,r⟩ hn Ql Qf o1 fun h' tk acc c k G =>?_
 refine fin h' tk acc c (fun b o nb q=>k b o nb (k1 b o nb q)) ?_
 have e:s.heap.objs.size=(s.heap.update S (Obj.mapSeq (fun _=>(#[]:Array Value)))).objs.size:=hz.symm
 rw[e]
 exact G
theorem BR {A:Around}{E:Value->Shared->Prop}{vw d:Addr}{kvs:List (K×Value)}{ep:Nat}(hh:A.handled=none){s:Shared}{Q:Value->Shared->Prop}(hv:s.heap.IsItemsView vw d)(hm:s.heap.DictAt knd d kvs ep)(hn:kvs.length<=sizeLine)
  (fin:∀h' tk acc c,(∀b o,s.heap.get? b=some o->h'.get? b=some o)->nR h' s.heap.objs.size kvs.length (kQ knd (s.heap.objs.size+1) s.heap.objs.size kvs) iW acc c->Q (.ref s.heap.objs.size) { s with heap:=h',toks:=tk }) :
  wpAny (model prog w) A (call (.type "list") [.ref vw]) Q E s:=by
 refine callType_codes (Q₁:=fun obj s₁=>obj = .ref s.heap.objs.size/\s₁={ s with heap:=s.heap.push { cls := .type "list",data := .seq #[] } }) F.called_list (F.typeCall_list_1 _) F.entry_list_init
  (code_list_new _ ⟨rfl,rfl⟩) fun obj s₁ h₁ =>?_
 obtain⟨rfl,rfl⟩:=h₁
 have hS:(s.heap.push { cls := .type "list",data := .seq #[] }).get? s.heap.objs.size=some { cls := .type "list",data := .seq #[] }:=Jk _ rfl
 obtain⟨ov,hov,c1,c2⟩:=hv
 obtain⟨od,es,ho,r⟩:=hm
 refine⟨⟨_,hS,rfl⟩,F.args_list_init_2 _ _,Cf (knd:=knd) (kvs:=kvs) (ep:=ep) (s:={ s with heap:=_ }) (A:=A.in1) hh ⟨ov,Jb _ hov,c1,c2⟩ ⟨od,es,Jb _ ho,r⟩ hn (Jm (Jf hov)) (Jm (Jf ho)) hS fun h' tk acc c k G=>⟨rfl,fin h' tk acc c (fun b o q =>?_) ?_⟩⟩
 ·exact k b o (Jm (Jf q)) (Jb _ q)
 ·have e:(s.heap.push { cls := .type "list",data := .seq #[] }).objs.size=s.heap.objs.size+1:=J8 ..
  rw[<-e]
  exact G
end
theorem MD {P:Program}{w:World}{k:Key}{u:Value}(h:(bw P w).is k u=true):RelV (kV k) u:=by
 rw[xb] at h
 cases k with
 | inl i=>exact Value.isInt_shape (k:=i) (v:=u) h
 | inr x=>exact Value.isStrOf_shape (x:=x) (v:=u) h
theorem OJ {kvs:List (Key×V)}{vs:List (Key×Value)}(r:KV kvs vs):∀{j:Nat} {k:Key} {u:Value},vs[j]? = some (k,u)->∃v,kvs[j]? = some (k,v)/\RelV v u:=by
 induction r with
 | nil=>intro j k u h;simp at h
 | @cons p q ps qs h t ih=>
  intro j k u e
  cases j with
  | zero=>
   cases e
   have h1:p.1=k:=h.1
   exact⟨p.2,by rw[<-h1];rfl,h.2⟩
  | succ j=>exact ih e
section
variable {X:Cx}
def Xj (to:TE):TE:=fun σ H Q=>to σ H fun x H1=>∃a kvs,x = .ref a/\H1 a=some (.dK kvs) /\
 ∀H' p (as:List Addr),ao H1 H'->H1 p=none->H' p=some (.lst (as.map V.ref))->as.length=kvs.length ->
  (∀(j:Nat) b k v,as[j]? = some b->kvs[j]? = some (k,v)->H1 b=none/\H' b=some (.tup [kV k,v]))->Q (.ref p) H'
theorem BM {o:Expr}{to:TE}{p pos apos dB:Pos}(hc:X.calm=true)(JK:Gl X "list")(JW:X.mg "list" = none)(ho:PE X o to)
  (Ls:bootBuiltins "list" = some (.type "list"):=by first|rfl|decide)
  (Eu:starEach [.Call (.Attribute o "items" apos) [] [] dB] X.env=[(false,eval (.Call (.Attribute o "items" apos) [] [] dB) X.env)]:=by rfl)
  (kP:attributeBase o "items" X.env (eval o X.env)=eval o X.env:=by rfl) (j2:(apos.endLine==dB.line)=true:=by rfl) :
  PE X (.Call (.Name "list" p) [.Call (.Attribute o "items" apos) [] [] dB] [] pos) (Xj to):=by
 intro pins s σ H Q I h
 refine wpAny_Call_Name_kw (dY I JK JW Ls ?_)
 refine PyProof.Rows.callWith_type1 ?_ Eu rfl
 rw[Eu]
 show wpAny _ _ (spliced ((false,eval (.Call (.Attribute o "items" apos) [] [] dB) X.env)::[])) _ _ _
 refine Calls.spliced_cons ?_
 refine wpAny_Call_method0_late kP j2 (bg (ho s σ H _ I h) fun v s1 ⟨x,H1,I1,r1,q1⟩=>?_)
 refine ai.el (q1) _ ?_
 rintro a kvs rfl ea q
 cases r1
 obtain⟨h1,h2⟩:=xG I1 (x := .ref a) (v := .ref a) rfl (show Qu X.K "dict" (.ref a) H1 from .inr (.inr (.inl ⟨rfl,.inl ⟨kvs,ea⟩⟩)))
 refine ai.el (yW I1.bC ea) _ ?_
 rintro hz hsm vs rel dd
 refine⟨"dict", "dict.items",PySem.F.plainAttrs_dict,PySem.F.slot_dict_items,PySem.F.type_dict_items,h1,h2,Calls.callWith_builtin rfl (PySem.evalArgs_none ?_)⟩
 refine call_meetsIn PySem.F.slot_dict_items h1 PySem.F.entry_dict_items (PySem.F.args_dict_items_1 _) (meets_dict_items (bw X.prog X.w) a hsm) ⟨⟨vs,dd⟩,?_⟩
 refine Calls.spliced_nil ?_
 obtain⟨ep,dat⟩:=dd.dictAt
 obtain⟨hp,ehp⟩:∃hp,hp=s1.heap.push { cls := .type "dict_items",data := .fields #[.ref a] }:=⟨_,rfl⟩
 have hk:∀b o,s1.heap.get? b=some o->hp.get? b=some o:=fun b o x=>by rw[ehp];exact Jb _ x
 have O3:hp.IsItemsView s1.heap.objs.size a:=⟨_,by rw[ehp];exact Jk _ rfl,rfl,rfl⟩
 have hsz:hp.objs.size=s1.heap.objs.size+1:=by rw[ehp,J8]
 have qG:s1.heap.objs.size<=hp.objs.size:=by rw[hsz];exact Yr _
 rw[<-ehp]
 have rl:=rel.length
 refine BR (knd:=bw X.prog X.w) (s:={ s1 with heap:=hp }) (I.ok.hd hc) O3 (dat.keep hk) (by rw[<-rl];exact hz) fun h' tk acc c KC G =>?_
 obtain⟨gob,gsz,gpw,gall⟩:=G
 obtain⟨as,gf⟩:=mF (l:=acc.toList) fun v hv=>by
  obtain⟨j,hj⟩:=Ut.mp hv
  obtain⟨b,_,_,_,e,_⟩:=gall j v (by simpa using hj)
  exact⟨b,e⟩
 have iT:∀(j:Nat) b,as[j]? = some b->∃(k:Key) (key val:Value),hp.objs.size<b/\vs[j]? = some (k,val)/\(bw X.prog X.w).is k key=true/\h'.get? b=some { cls := .type "tuple",data := .seq #[key,val] }:=fun j b hb=>by
  obtain⟨b',k,key,val,e,g1,_,g3,g4,_,g6⟩:=gall j (.ref b) (by
   have:acc.toList[j]? = some (.ref b):=by rw[gf,Ji,hb];rfl
   simpa using this)
  cases e
  exact⟨k,key,val,g1,g3,g4,g6⟩
 have above:∀b∈as,hp.objs.size<b:=fun b hb=>by
  obtain⟨j,hj⟩:=Ut.mp hb
  obtain⟨_,_,_,g,_⟩:=iT j b hj
  exact g
 have I2:Inv X pins σ H1 { s1 with heap:=h',toks:=tk }:=I1.kept fun b o e=>KC b o (hk b o e)
 have tU:∀b∈as,s1.heap.objs.size<=b:=fun b hb=>U8 (J1 qG (above b hb))
 have nd:as.Nodup:=by
  rw[gf,List.pairwise_map] at gpw
  exact gpw.imp fun⟨a,b,e1,e2,h⟩=>by cases e1;cases e2;exact Jm h
 have eB:∀b,s1.heap.objs.size<=b->dE X pins H1 b/\X.s₀.heap.objs.size<=b:=fun b hb=>⟨I1.eB hb (I1.bC.fresh hb),Jh I1.sz hb⟩
 have Hl:as.length=kvs.length:=by
  have z:acc.toList.length=as.length:=by rw[gf,Jc]
  simp at z gsz
  omega
 obtain⟨H',I',sm,same,all⟩:=I2.kr as (kvs.map fun q=>[kV q.1,q.2]) nd (by rw[Jc];exact Hl) (fun b hb=>eB b (tU b hb)) (fun j b pp g1 g2=>by
  refine ai.el (iT j b g1) _ ?_
  rintro k key val _ c1 c2 c3
  refine ai.el (OJ rel c1) _ ?_
  rintro v c4 c5
  rw[Ji,c4] at g2
  cases g2
  exact⟨by show 2<=sizeLine;decide,[key,val],.cons (MD c2) (.cons c5 .nil),⟨_,c3,rfl,rfl,_,rfl⟩⟩)
 have EV:hp.objs.size∉as:=fun hm=>J7 _ (above _ hm)
 have mM:H1 hp.objs.size=none:=I1.bC.fresh qG
 obtain⟨fS,sS⟩:=eB hp.objs.size qG
 have NI:dE X pins H' hp.objs.size:=⟨by rw[same _ EV];exact mM,fS.2⟩
 have I3:=I'.adopt (T:=hp.objs.size) (o := .lst (as.map V.ref)) NI sS ⟨by rw[Jc];omega,acc.toList,c,by
  rw[gf]
  clear gob gf all same I' sm tU nd Hl EV above iT
  induction as with
  | nil=>exact .nil
  | cons a r ih=>exact .cons rfl ih,by simpa using gob⟩
 refine⟨.ref hp.objs.size,_,I3,rfl,q _ _ as (fun b o e =>?_) mM ay Hl fun j b k v g1 g2=>⟨(eB b (tU b (J2 g1))).1.1,?_⟩⟩
 ·rw[ak (aw e mM)];exact sm b o e
 ·rw[ak (fun(z:b=hp.objs.size)=>EV (by rw[<-z];exact J2 g1))]
  exact all j b [kV k,v] g1 (by rw[Ji,g2];rfl)
end
theorem Gq:typeLookup (.type "list") "keys" = pure none:=by rw[typeLookup_type,builtinLookup_eq_fast];kernel_rfl
theorem OZ:typeLookup (.type "list") "__getattr__" = pure none:=by rw[typeLookup_type,builtinLookup_eq_fast];kernel_rfl
theorem lR:isSubtype (.type "AttributeError") (.type "AttributeError")=pure true:=by first|rfl|(rw[isSubtype_type];kernel_rfl)
section
variable {prog:Program}{w:World}{A:Around}{E:Value->Shared->Prop}{h:Heap}{g:Array GenState}{d:Drawn}{t:Nat}{os:OsState}{a:Addr}{o:Obj}
theorem wC {tk:Tok}{Q:Fin->Shared->Prop}(hx:h.get? a=some o)(hc:o.cls = .type "list")(nU:o.dict=none){xs:Array Value}{n:Nat}(hd:o.data = .seq xs n)(hh:A.handled=none)
  (hq:∀e h' t',(∀b o,h.get? b=some o->h'.get? b=some o)->(∃oe,h'.get? e=some oe/\oe.cls = .type "AttributeError")->E (.ref e) ⟨h',g,d,t',os⟩) :
  wpAny (model prog w) A (Builtin.«object.__getattribute__» ⟨[.ref a,.str "keys" tk],[]⟩) Q E ⟨h,g,d,t,os⟩:=by
 have hT:(⟨h,g,d,t,os⟩:Shared).TypeIs (.ref a) "list":=⟨_,hx,hc⟩
 have f4:=Gq
 repeat (any_goals (first|assumption|wp_step))
 rw[hd]
 dsimp only
 unfold instanceDict
 repeat (any_goals (first|assumption|wp_step))
 rw[nU,hc]
 repeat (any_goals (first|assumption|wp_step))
 have f9:=lR
 unfold raiseAttrError noteAttr
 wp_walk
 rw[show(Manifest.find? "AttributeError").elim false (fun t=>t.mro.contains "StopIteration" || t.mro.contains "SystemExit")=false by decide +kernel,if_neg Jl]
 repeat (any_goals (first|assumption|wp_step))
 refine wpAny_raiseNew_none hh (hq _ _ _ (fun b o' x =>?_) ⟨_,J3 _ (Jk _ rfl) rfl,rfl⟩)
 have x1:=Jb (h:=h) { cls:=Value.type "tuple",data:=Data.seq #[Value.str (Str.ofString (toString "'" ++ toString ((Manifest.find? "list").elim "list" fun x=>x.tpName)++toString "' object has no attribute '")++Str.ofString "keys" ++ Str.ofString "'") t] } x
 rw[J5 _ _ (Uc (Jf x1))]
 exact Jb _ x1
theorem BA {tk:Tok}{R:Result->Shared->Prop}(hx:h.get? a=some o)(hc:o.cls = .type "list")(nU:o.dict=none){xs:Array Value}{n:Nat}(hd:o.data = .seq xs n)(hh:A.handled=none)
  (hq:∀e h' t',(∀b o,h.get? b=some o->h'.get? b=some o)->(∃oe,h'.get? e=some oe/\oe.cls = .type "AttributeError")->R (.error (.ref e)) ⟨h',g,d,t',os⟩) :
  codeAny (model prog w) A (.call (.builtin "list.__getattribute__") ⟨[.ref a,.str "keys" tk],[]⟩) R ⟨h,g,d,t,os⟩:=
 codeAny_call_builtin F.slot_list_getattribute.plain F.entry_list_ga (F.slot_list_getattribute.check _ _ _ _ _ _ _ _ (show(⟨h,g,d,t,os⟩:Shared).TypeIs (.ref a) "list" from⟨_,hx,hc⟩) (F.args_list_getattribute_2 _ _) (wC hx hc nU hd hh hq))
theorem Cb {Q:Option Value->Shared->Prop}(hx:h.get? a=some o)(hc:o.cls = .type "list")(nU:o.dict=none){xs:Array Value}{n:Nat}(hd:o.data = .seq xs n)(hh:A.handled=none)
  (hq:∀h' t',(∀b o,h.get? b=some o->h'.get? b=some o)->Q none ⟨h',g,d,t',os⟩):wpAny (model prog w) A (getAttr? (.ref a) "keys") Q E ⟨h,g,d,t,os⟩:=by
 have hT:(⟨h,g,d,t+1,os⟩:Shared).TypeIs (.ref a) "list":=⟨_,hx,hc⟩
 have f2:=F.slot_list_getattribute.lookup
 have f3:=F.slot_list_getattribute.bind (.ref a)
 have f4:=OZ
 unfold getAttr? getAttrBy?
 repeat (any_goals (first|assumption|wp_step))
 refine BA hx hc nU hd hh fun e h' t' k hoe =>?_
 have Nl:Shared.TypeIs ⟨h',g,d,t',os⟩ (.ref e) "AttributeError":=hoe
 have f5:=lR
 dsimp only
 unfold getattributeRaised
 refine wpAny_bind (wpAny_isInstance (T := "AttributeError") (b:=true) Nl f5 ?_)
 rw[if_pos rfl]
 unfold hookBehind
 repeat (any_goals (first|assumption|wp_step))
 exact hq h' t' k
end
theorem cg:entryFor table "dict.update.loop" = some Builtin.«dict.update.loop»:=entryFor_of_fast (by kernel_rfl)
theorem aY:plainId "dict.update.loop" = true:=by decide +kernel
section
variable {prog:Program}{w:World}{K:Type}[DecidableEq K]{knd:KeyKind prog w K}{A:Around}{E:Value->Shared->Prop}
def jx (knd:KeyKind prog w K)(h:Heap)(v:Value)(kv:K×Value):Prop:=∃(tp:Addr) (o:Obj) (n:Nat) (ku:Value),v = .ref tp/\h.get? tp=some o/\o.cls = .type "tuple" /\ o.data = .seq #[ku,kv.2] n/\knd.is kv.1 ku=true
theorem mR {s:Shared}{R:Result->Shared->Prop}{it l d:Addr}{items:Array Value}{kvs:List (K×Value)}{g:Heap}(hh:A.in1.handled=none)(hl:g.IsList l items)(hn:items.size=kvs.length)(hz:kvs.length<=100000)
  (hp:∀(j:Nat) v kv,items[j]? = some v->kvs[j]? = some kv->jx knd g v kv) (lit:∀b o,g.get? b=some o->b≠it/\b≠d) (ne:d≠it)
  (fin:∀h tk,(∀b o,b≠d->b≠it->g.get? b=some o->h.get? b=some o)->h.DictOf knd d (merged [] kvs)->R (.ok (.ret .none)) { s with heap:=h,toks:=tk }) :
  ∀(k i:Nat) (h:Heap) (tk:Nat) (acc:List (K×Value)),i+k=kvs.length->acc.length<=i->merged acc (kvs.drop i)=merged [] kvs->(∀b o,b≠d->b≠it->g.get? b=some o->h.get? b=some o)->h.IsListIter it l i->h.DictOf knd d acc ->
   codeAny (model prog w) A (.builtin "dict.update.loop" ⟨[.ref d,.ref it,rawInt i,.none],[]⟩) R { s with heap:=h,toks:=tk }
 | 0,i,h,tk,acc,hk,ha,hm,kp,hi,hd=>by
  have e:i=kvs.length:=by omega
  subst e
  have GD:h.IsList l items:=by
   obtain⟨o,ho,r⟩:=hl
   exact⟨o,kp _ _ (lit _ _ ho).2 (lit _ _ ho).1 ho,r⟩
  refine codeAny_builtin cg ?_
  rw[Around.under_plainId aY _]
  unfold Builtin.«dict.update.loop»
  refine wpAny_bind (wpAny_pyNext_list_end (s:={ s with heap:=h,toks:=tk }) hh hi GD (by rw[Yj (by omega)]) fun h' eb =>?_)
  refine wpAny_bind (m:=Builtin.Dict.addKeywords d []) (wpAny_pure (wpAny_pure ?_))
  refine fin h' tk (fun b o nd ni x=>eb b o ni (kp b o nd ni x)) ?_
  rw[List.drop_length] at hm
  have hm:acc=merged [] kvs:=hm
  rw[<-hm]
  obtain⟨o,es,ep,ho,r⟩:=hd
  exact⟨o,es,ep,eb _ _ ne ho,r⟩
 | k+1,i,h,tk,acc,hk,ha,hm,kp,hi,hd=>by
  have hW:i<kvs.length:=by omega
  have GD:h.IsList l items:=by
   obtain⟨o,ho,r⟩:=hl
   exact⟨o,kp _ _ (lit _ _ ho).2 (lit _ _ ho).1 ho,r⟩
  have FY:items[i]? = some items[i]:=J9 (by omega)
  obtain⟨tp,o,n,ku,ev,ho,hc,hdat,hkey⟩:=hp i _ _ FY (Jd hW)
  refine codeAny_builtin cg ?_
  rw[Around.under_plainId aY _]
  unfold Builtin.«dict.update.loop»
  refine wpAny_bind (wpAny_pyNext_list_item (s:={ s with heap:=h,toks:=tk }) hi GD FY fun h1 hi1 E7 =>?_)
  rw[ev]
  have Io:h1.get? tp=some o:=E7.extBut _ _ (lit _ _ ho).1 (kp _ _ (lit _ _ ho).2 (lit _ _ ho).1 ho)
  have LH:h1.DictOf knd d acc:=by
   obtain⟨o,es,ep,ho,r⟩:=hd
   exact⟨o,es,ep,E7.extBut _ _ ne ho,r⟩
  have hT:Shared.TypeIs { s with heap:=h1,toks:=tk } (.ref tp) "tuple":=⟨o,Io,hc⟩
  refine wpAny_bind (wpAny_holding ?_)
  refine wpAny_bind (wpAny_tryCatch ?_)
  unfold Builtin.Dict.pairItems
  refine wpAny_bind (wpAny_typeOf hT ?_)
  rw[if_pos (by decide)]
  refine wpAny_bind (wpAny_seqItems (s:={ s with heap:=h1,toks:=tk }) Io hdat (wpAny_pure ?_))
  refine wpAny_holding (wpAny_dictSet_pairs (s:={ s with heap:=h1,toks:=tk }) hkey LH (fun h2 Kq sb2 =>?_) (Jh (show acc.length<=100000 by omega) (by decide)))
  refine wpAny_pure ⟨plainId_quiet aY _,?_⟩
  have:=mR hh hl hn hz hp lit ne fin k (i+1) h2 (tk+1) (stored acc kvs[i].1 kvs[i].2) (by omega) ?_ ?_ (fun b o nd ni x=>sb2.extBut b o nd (E7.extBut b o ni (kp b o nd ni x))) ?_ Kq
  ·exact this
  ·refine Jh ?_ (Y9 ha)
   unfold stored
   split
   ·rw[Jc];exact Yr _
   ·rw[Jp];exact Je _
  ·rw[<-hm,List.drop_eq_getElem_cons hW]
   rfl
  ·obtain⟨oi,e1,r⟩:=hi1
   exact⟨oi,sb2.extBut _ _ (Ne.symm ne) e1,r⟩
theorem xn {s:Shared}{Q:Value->Shared->Prop}{l:Addr}{items:Array Value}{kvs:List (K×Value)}{ol:Obj}{n:Nat}(hh:A.handled=none)(ho:s.heap.get? l=some ol)(hc:ol.cls = .type "list")(nU:ol.dict=none)(hd:ol.data = .seq items n)(hn:items.size=kvs.length)(hz:kvs.length<=100000)
  (hp:∀(j:Nat) v kv,items[j]? = some v->kvs[j]? = some kv->jx knd s.heap v kv)
  (fin:∀h tk,(∀b o,s.heap.get? b=some o->h.get? b=some o)->h.DictOf knd s.heap.objs.size (merged [] kvs)->Q (.ref s.heap.objs.size) { s with heap:=h,toks:=tk }) :
  wpAny (model prog w) A (call (.type "dict") [.ref l]) Q E s:=by
 refine callType_codes (Q₁:=fun obj s₁=>obj = .ref s.heap.objs.size/\s₁={ s with heap:=s.heap.push { cls := .type "dict",data := .dict #[] } }) F.kt_called_dict (F.kt_typeCall_dict_1 _) F.entry_dict_init (kt_code_dict_new _ ⟨rfl,rfl⟩) ?_
 rintro obj s1 ⟨rfl,rfl⟩
 have new:(s.heap.push { cls := .type "dict",data := .dict #[] }).DictOf knd s.heap.objs.size []:=Heap.DictOf.new s.heap
 have k0:∀b o,s.heap.get? b=some o->(s.heap.push { cls := .type "dict",data := .dict #[] }).get? b=some o:=fun b o x=>Jb _ x
 refine⟨new.typeIs,F.args_dict_init_2 _ _,?_⟩
 unfold Builtin.«dict.__init__» Builtin.Dict.selfAndRest
 refine wpAny_bind (wpAny_bind (wpAny_notOrdered_dict new.typeIs ?_))
 show wpAny _ _ (pure (s.heap.objs.size,[Value.ref l])) _ _ _
 refine wpAny_pure ?_
 show wpAny _ _ (Builtin.Dict.updateFrom "dict.__init__" s.heap.objs.size (.ref l) [] .none) _ _ _
 unfold Builtin.Dict.updateFrom
 have hT:Shared.TypeIs { s with heap:=s.heap.push { cls := .type "dict",data := .dict #[] } } (.ref l) "list":=⟨ol,k0 _ _ ho,hc⟩
 refine wpAny_bind (wpAny_typeOf hT ?_)
 rw[if_pos (by decide)]
 refine wpAny_bind (Cb (h:=s.heap.push { cls := .type "dict",data := .dict #[] }) (k0 _ _ ho) hc nU hd hh fun h1 t1 k1 =>?_)
 rw[if_pos (by rfl)]
 have kk:∀b o,s.heap.get? b=some o->h1.get? b=some o:=fun b o x=>k1 b o (k0 b o x)
 refine wpAny_bind (wpAny_rule (wpAny_bind (wpAny_pyIter_list (l:=l) (items:=items) ⟨ol,kk _ _ ho,hc,n,hd⟩ ?_)))
 have hS:s.heap.objs.size<h1.objs.size:=by
  obtain⟨o,es,ep,e,_⟩:=new
  exact Jf (k1 _ _ e)
 refine wpAny_pure ⟨plainId_quiet aY _,?_⟩
 have low:∀b o,s.heap.get? b=some o->b≠h1.objs.size/\b≠s.heap.objs.size:=fun b o x=>⟨Jm (Jf (kk b o x)),Jm (Jf x)⟩
 refine mR (s:=s) (knd:=knd) (A:=A.in1) (it:=h1.objs.size) (g:=s.heap) (kvs:=kvs) hh ⟨ol,ho,hc,n,hd⟩ hn hz hp low (Jm hS) (fun h tk k dd=>⟨rfl,fin h tk (fun b o x=>k b o (low b o x).2 (low b o x).1 x) dd⟩) kvs.length 0 _ _ [] (by omega) (Je _) rfl (fun b o nd ni x=>Jb _ (kk b o x)) ⟨_,Jk _ rfl,rfl,rfl⟩ ?_
 obtain⟨o,es,ep,e,r⟩:=new
 exact⟨o,es,ep,Jb _ (k1 _ _ e),r⟩
end
section
variable {X:Cx}{pins:List (Addr×Obj)}{σ:St}{H:Hp}{s:Shared}
theorem qF (I:Inv X pins σ H s)(as:List Addr):∀{kvs:List (Key×V)},as.length=kvs.length->(∀(j:Nat) b kv,as[j]? = some b->kvs[j]? = some kv->br X.K H b [kV kv.1,kv.2]) ->
  ∃vs,KV kvs vs/\∀(j:Nat) b kv,as[j]? = some b->vs[j]? = some kv->jx (bw X.prog X.w) s.heap (.ref b) kv:=by
 induction as with
 | nil=>
  intro kvs hl _
  rw[Yu hl.symm]
  exact⟨[],.nil,fun j b kv h=>by simp at h⟩
 | cons a as ih=>
  intro kvs hl h
  cases kvs with
  | nil=>cases hl
  | cons p kvs=>
  obtain⟨vs,h1,h2⟩:=ih (kvs:=kvs) (by simpa using hl) fun j b kv e1 e2=>h (j+1) b kv e1 e2
  obtain⟨au,r,⟨o,e1,e2,n,e3⟩,_⟩:=I.tuple (h 0 a p rfl rfl)
  obtain⟨ku,vu,rfl,r1,r2⟩:=r.two
  refine⟨(p.1,vu)::vs,.cons ⟨rfl,r2⟩ h1,fun j b kv e4 e5 =>?_⟩
  cases j with
  | zero=>
   cases e4;cases e5
   exact⟨a,o,n,ku,rfl,e1,e2,e3,mx r1⟩
  | succ j=>exact h2 j b kv e4 e5
theorem jK:∀{as:List Addr} {au:List Value},Vals (as.map V.ref) au->au=as.map Value.ref
 | [],_,rv=>by cases rv;rfl
 | a::as,_,rv=>by
  obtain⟨v,r,rfl,rv1,rv2⟩:=rv.hd
  cases rv1
  rw[jK rv2];rfl
theorem yR (K:Ja)(hc:X.calm=true)(hK:X.K=K:=by rfl):bE X (.type "dict") (fun xs H Q=>∃(p:Addr) (as:List Addr) (kvs:List (Key×V)),xs=[.ref p]/\bb K H p (as.map V.ref)/\as.length=kvs.length/\kvs.length<=100000 /\
  (∀(j:Nat) b kv,as[j]? = some b->kvs[j]? = some kv->br K H b [kV kv.1,kv.2])/\∀d H',gX H d (.dK (cz [] kvs)) H'->Q (.ref d) H'):=by
 subst hK
 intro pins s σ H xs us Q I r h
 obtain⟨p,as,kvs,rfl,hp,hl,hz,ht,q⟩:=h
 obtain⟨u,rfl,ru⟩:=vals1 r
 cases ru
 obtain⟨au,rv,⟨o,n,e1,e2,e3,e4⟩,_⟩:=I.list hp
 obtain⟨vs,kv,pa⟩:=qF I _ hl ht
 have hits:=jK rv
 have kl:=kv.length
 refine xn (knd:=bw X.prog X.w) (kvs:=vs) (I.ok.hd hc) e1 e2 e3 e4 (by rw[hits];simp;omega) (by omega) (fun j v kw h1 h2 =>?_) fun h1 tk k1 dd =>?_
 ·rw[hits] at h1
  simp only[List.getElem?_toArray,Ji] at h1
  cases e:as[j]? with
  | none=>rw[e] at h1;cases h1
  | some b=>rw[e] at h1;cases h1;exact pa j b kw e h2
 ·have ml:=de kvs []
  have big:=I.big
  refine⟨.ref s.heap.objs.size,_,I.laid (a:=s.heap.objs.size) (o := .dK (cz [] kvs)) (t':=tk) k1 (Je _) ⟨Jh (show _<=100000 by simp at ml;omega) (by decide),?_,_,KV.merge kv .nil,dd⟩,rfl,q _ _ ⟨I.bC.fresh (Je _),rfl⟩⟩
  exact beq_eq_false_iff_ne.mpr (Uc big)
end
section
variable {X:Cx}
theorem FU:Mr X "list.remove" (fun x vs H Q=>∃(l:Addr) (xs:List Str) (y:Str),x = .ref l/\vs=[.str y]/\H l=some (.lst (xs.map V.str))/\y∈xs/\∀H',AH H l (.lst ((xs.erase y).map V.str)) H'->Q .non H'):=by
 intro pins s σ H x vs v us Q I rx rv h
 obtain⟨l,xs,y,rfl,rfl,hH,hy,q⟩:=h
 cases rx
 obtain⟨u,rfl,ru⟩:=vals1 rv
 obtain⟨t,rfl⟩:=ru
 obtain⟨z,au,n,r,hl,e⟩:=I.yt hH
 have hlen:=r.length
 rw[Jc] at hlen
 obtain⟨j,hj⟩:∃j,j=xs.idxOf y:=⟨_,rfl⟩
 have jl:j<xs.length:=by rw[hj];exact List.idxOf_lt_length_iff.mpr hy
 have jy:xs[j]=y:=by simp only[hj];exact List.getElem_idxOf (by rw[<-hj];exact jl)
 have jn:∀m (hm:m<xs.length),m<j->xs[m]≠y:=fun m hm hmj w=>by
  have:m<List.findIdx (· == y) xs:=by rw[hj] at hmj;exact hmj
  have:=List.not_of_lt_findIdx this
  rw[w] at this
  simp at this
 let ev:Value->Bool:=fun u=>match u with | .str a _=>a==y|_=>false
 have at':∀m (hm:m<au.length),∃t',au[m] = .str (xs[m]'(by omega)) t':=fun m hm=>by
  obtain⟨a,h1,h2⟩:=ke r (i:=m) (v:=au[m]) (by simp[hm])
  rw[Ji,Jd (by omega)] at h1
  cases h1
  exact h2
 refine call_meets F.slot_list_remove ⟨_,e,rfl⟩ F.entry_list_remove (F.args_list_remove_2 _ _) (MeetsSeq.list_remove l au.toArray n (.str y t) ev (fun w hw =>?_) j (by rw[Js];omega) ?_ ?_ (by rw[Js];omega)) ⟨e,?_⟩
 ·have hw:w∈au:=by simpa using hw
  obtain⟨i,hi,ew⟩:=Yt.mp hw
  obtain⟨t',e'⟩:=at' i hi
  rw[<-ew,e']
  have z:=SeqRoads2.EqGives.str (xs[i]'(by omega)) y t' t
  rw[show((xs[i]'(by omega)).cps.toList==y.cps.toList)=((xs[i]'(by omega))==y) from by rw[Y4,beq_iff_eq,beq_iff_eq,Array.toList_inj];exact⟨fun q=>by generalize xs[i]'(by omega)=x at q ⊢;cases x;cases y;simp_all,fun q=>by rw[q]⟩] at z
  exact z
 ·obtain⟨t',e'⟩:=at' j (by omega)
  show ev au[j]=true
  rw[e']
  show(xs[j]==y)=true
  rw[jy];simp
 ·intro m hm hmj
  have Ab:m<au.length:=by rw[Js] at hm;exact hm
  obtain⟨t',e'⟩:=at' m Ab
  show ev au[m]=false
  rw[e']
  show(xs[m]==y)=false
  simpa using jn m (by omega) hmj
 ·have ex:(xs.map V.str).eraseIdx j=(xs.erase y).map V.str:=by
   rw[List.erase_eq_eraseIdx_of_idxOf (i:=j) hj.symm,Yo,Yo,Jy,List.map_take,List.map_drop]
  refine⟨.non,_,I.FI (ys:=(xs.map V.str).eraseIdx j) (its':=au.eraseIdx j) hH e ?_ (mZ j r) (by rw[List.length_eraseIdx];split<;>omega),rfl,?_⟩
  ·simp[Array.eraseIdxIfInBounds,show j<au.length by omega]
  ·exact q _ ⟨by rw[ex]⟩
end
section
variable {M:Model}{A:Around}{E:Value->Shared->Prop}{s:Shared}{env:Env}
variable {nm q:Str}{C N:Addr}{bs bm:List Value}{hdct:Bool}{sn:List Str}{sub:List Value}{ab:Bool}{col:Option Bool}{dd:Option Addr}{k0 k1 k2 k3 k5:Option Value}{newId:String}
theorem Aq {x:Expr}{pos:Pos}{Q:Flow->Shared->Prop}(hh:A.handled=none)(hb:bm.contains (.type "BaseException")=true)
  (h:wpAny M A (eval x env) (fun v s1=>∃e o,v = .ref e/\s1.heap.get? C=some (excClassObj nm q C N bs bm hdct sn sub ab col dd k0 k1 k2 k3 k5 newId)/\s1.heap.get? e=some o/\o.cls = .ref C/\Raw o/\E (.ref e) s1) E s) :
  wpAny M A (exec (.Raise (some x) none pos) env) Q E s:=by
 have X0:(Value.ref C::bm).contains (.type "BaseException")=true:=by rw[List.contains_cons,hb,Bool.or_true]
 rw[arm_exec_Raise]
 show wpAny M A (do standAt pos;raiseStmt env (some (do let v <-eval x env;standAt pos;pure v)) none) Q E s
 refine wpAny_bind (wpAny_standAt ?_)
 unfold raiseStmt
 refine wpAny_bind (wpAny_bind (wpAny_mono h (fun v s1 h1=>wpAny_bind (wpAny_standAt (wpAny_pure ?_))) fun _ _ z=>z))
 obtain⟨e,o,rfl,hC,he,hc,⟨t,hd⟩,hE⟩:=h1
 obtain⟨oc,od,odt,zR⟩:=o
 dsimp only at hc hd
 subst hc hd
 obtain⟨hp,g,d,tk,os⟩:=s1
 repeat (first|with_reducible refine wpAny_loadPart_at he ?_|with_reducible refine wpAny_loadPart_at hC ?_|(with_reducible refine wpAny_isSubtype_exc hC ?_;rw[X0])|wp_step)
 exact wpAny_raiseNew_none hh hE
end
section
variable {P:Program}{w:World}{K:Ja}{mg:Str->Option Value}{base:Heap}{N:List Str}{qual:Str}{scope:Scope}{f:Addr}{cd:Value}{A:Around}{outer:List Env}{s0:Shared}{H0:Hp}{E:XK}
def He (C:Addr)(H0:Hp)(E:XK)(sp:Sp)(t:TA):TS:=fun _ σ H=>EW C sp t σ H fun v H2=>∃e dx,v = .ref e/\H2 e=some (Bp e C dx)/\H0 e=none/\E (.ref C) (some dx) (pI H2 e)
theorem qB {k:Nat}{fi C:Addr}{fd:FuncData}{ps:List Str}{sp:Sp}{x:Str}{p dB pos:Pos}{a:Expr}{as:List Expr}{t:TA}(M:Lq K C fi)(F:bh P w K mg base eP k fi fd ps sp)(hr:cY (k+1) (A.deeper (envOfC qual scope s0.heap.objs.size f cd)))
  (hg:Gl (hV (pO P w base) P w K mg base N qual scope f cd A outer s0 H0 E) x) (hm:mg x=some (.ref C)) (hb:Binds K fd ps []) (ha:PA (hV (pO P w base) P w K mg base N qual scope f cd A outer s0 H0 E) (a::as) t) (sR:(x==("__debug__" : Str))=false:=by decide)
  (he:starEach (a::as) (envOfC qual scope s0.heap.objs.size f cd)=(false,eval a (envOfC qual scope s0.heap.objs.size f cd))::starEach as (envOfC qual scope s0.heap.objs.size f cd):=by rfl) (qy:(backTo dB (starEach as (envOfC qual scope s0.heap.objs.size f cd))).any (·.1)=false:=by rfl) :
  PS (hV (pO P w base) P w K mg base N qual scope f cd A outer s0 H0 E) (.Raise (some (.Call (.Name x p) (a::as) [] dB)) none pos) (He C H0 E sp t):=by
 intro pins s σ H D I h
 obtain⟨nm,qn,Nn,bs,Db,hdct,sn,sub,ab,col,dd,k0,k1,k2,k3,k5,lk,TL⟩:=id M.cl
 have ev:=Dn (X:=hV (pO P w base) P w K mg base N qual scope f cd A outer s0 H0 E) (pos:=dB) (p:=p) M F hr hg hm hb ha rfl sR he qy s σ H _ I h
 refine Aq (C:=C) (nm:=nm) (q:=qn) (N:=Nn) (bs:=bs) (bm := .ref Db::dC) (hdct:=hdct) (sn:=sn) (sub:=sub) (ab:=ab) (col:=col) (dd:=dd) (k0:=k0) (k1:=k1) (k2:=k2) (k3:=k3) (k5:=k5) (newId := "ValueError.__new__")
  (I.ok.hd rfl) (by simp[dC]) (bg ev fun v s1 ⟨y,H1,I1,ry,e,dx,ey,ee,h0,hE⟩=>?_)
 subst ey
 obtain rfl:v=Value.ref e:=ry
 obtain⟨ob,b1,b2,b3,b4⟩:=(show bz P w H1 s1.heap e (Bp e C dx) from I1.bC e _ ee).1
 obtain⟨t0,b5⟩:=id b4
 have ub:Un (gm outer) [] H0 H1 s0.heap s1.heap:=I1.base
 refine⟨e,ob,rfl,I1.je _ _ lk,b1,b2,b4,xv (t:=t0) I1 b1 ?_ b5 rfl rfl (.inr ⟨_,ee⟩) (by rw[b2,b3];exact hE)⟩
 cases z:s0.heap.get? e with
 | none=>rfl
 | some o=>
  have:=ub.free e o z h0 (by simp)
  rw[ee] at this;cases this
end
theorem cI {h h':Heap}{it:Addr}{ty:String}{z:Str}{t:Tok}{i:Nat}(x:h.IsStrIter it ty z t i)(k:∀o,h.get? it=some o->h'.get? it=some o):h'.IsStrIter it ty z t i:=
 let ⟨o,a,r⟩:=x; ⟨o,k o a,r⟩
open Builtin.Str
theorem kj:∀(tk:Nat) (xs:List Str),Vals (xs.map V.str) (strValues (numbered tk xs))
 | _,[] =>.nil
 | tk,x::r =>.cons ⟨tk,rfl⟩ (kj (tk+1) r)
section
variable {X:Cx}
theorem Du:Fg X "str.split" (fun x vs H Q=>dS fun a b=>x = .str a/\vs=[.str b]/\b.length≠0/\a.length<=10000000/\(Txt.split a b).length<=10000000/\∀p H',gX H p (.lst ((Txt.split a b).map V.str)) H'->Q (.ref p) H'):=by
 intro pins s σ H x vs v us Q I rx rv h
 obtain⟨a,b,rfl,rfl,hb,ha,hn,q⟩:=h
 obtain⟨t,rfl⟩:=rx
 obtain⟨u,rfl,t',rfl⟩:=rv.one
 have Cg:(b.length==0)=false:=by simpa using hb
 have new:∀(tk:Nat) (au:List Value),Vals ((Txt.split a b).map V.str) au->EP X pins σ Q (.ref s.heap.objs.size) { s with toks:=tk,heap:=s.heap.push { cls := .type "list",data := .seq au.toArray } }:=fun tk au r=>
  ⟨.ref _,_,I.laid (a:=s.heap.objs.size) (o := .lst ((Txt.split a b).map V.str)) (t':=tk) (fun _ _ e=>Jb _ e) (Je _) ⟨by rw[Jc];exact Jh hn (by decide),au,0,r,Jk _ rfl⟩,rfl,q _ _ ⟨I.bC.fresh (Je _),rfl⟩⟩
 have self:Txt.split a b=[a]->Vals ((Txt.split a b).map V.str) [.str a t]:=fun e=>by rw[e];exact .cons ⟨t,rfl⟩ .nil
 by_cases h1:(decide (a.length<b.length)||decide (strKind a<strKind b))=true
 ·exact call_meets F.slot_str_split (typeIs_str _ _ _) F.entry_str_split (F.args_str_split_2 _ _) (meets_str_split_cannot_occur a b t t' h1) (new s.toks _ (self (if_pos h1)))
 have Ib:=Uw.mpr h1
 by_cases hf:(occurrences a b 0 a.length (a.length+1)).isEmpty=true
 ·exact call_meets F.slot_str_split (typeIs_str _ _ _) F.entry_str_split (F.args_str_split_2 _ _) (meets_str_split_not_found a b t t' Ib Cg hf) (new s.toks _ (self ((if_neg h1).trans (if_pos hf))))
 have e:Txt.split a b=partsBetween a (occurrences a b 0 a.length (a.length+1)) b.length:=(if_neg h1).trans (if_neg hf)
 refine call_meets F.slot_str_split (typeIs_str _ _ _) F.entry_str_split (F.args_str_split_2 _ _) (meets_str_split_sep a b t t' Ib Cg (Uw.mpr hf) (Jh ha (by decide)) (by rw[<-e];exact Jh hn (by decide))) ?_
 refine new _ _ ?_
 rw[<-e,strsFrom_eq]
 exact kj _ _
def HM (K:Ja):R2:=fun x y H Q=>qi fun(a b:Addr) (xs ys:List V)=>x = .ref a/\y = .ref b/\br K H a xs/\br K H b ys/\xs.length+ys.length<=100000/\xs≠[] /\
 (ys=[]->Q (.ref a) H)/\(ys≠[]->∀p H',gX H p (.tup (xs++ys)) H'->Q (.ref p) H')
theorem JB:dR X (binaryOp .Add) (HM X.K):=by
 intro pins s σ H x y v u Q I rx ry h
 obtain⟨a,b,xs,ys,rfl,rfl,ha,hb,hl,hx,q0,q1⟩:=h
 cases rx
 cases ry
 obtain⟨is,ra,⟨⟨c1,d1,k1,l1⟩,e1,f1,n1,g1⟩,_⟩:=I.tuple ha
 obtain⟨js,rb,⟨⟨c2,d2,k2,l2⟩,e2,f2,n2,g2⟩,_⟩:=I.tuple hb
 simp only at f1 g1 f2 g2
 subst f1 g1 f2 g2
 have li:=ra.length
 have lj:=rb.length
 have hi:¬is.toArray.isEmpty=true:=fun z=>hx (by
  have:is=[]:=by simpa using z
  rw[this] at li
  exact List.length_eq_zero_iff.mp li)
 by_cases hy:ys=[]
 ·have hj:js.toArray.isEmpty=true:=by
   rw[hy] at lj
   have:js=[]:=List.length_eq_zero_iff.mp lj.symm
   rw[this];rfl
  exact concat_meets ⟨_,e1,rfl⟩ ⟨_,e2,rfl⟩ noFill_tuple_add seq_tuple_add F.slot_tuple_add F.entry_tuple_add (F.args_tuple_add_2 _ _) (tuple_addW1 a b is.toArray js.toArray n1 n2 d1 d2 l1 l2 hi hj) ⟨e1,e2,⟨.ref a,H,I,rfl,q0 hy⟩⟩
 ·have hj:¬js.toArray.isEmpty=true:=fun z=>hy (by
   have:js=[]:=by simpa using z
   rw[this] at lj
   exact List.length_eq_zero_iff.mp lj)
  refine concat_meets ⟨_,e1,rfl⟩ ⟨_,e2,rfl⟩ noFill_tuple_add seq_tuple_add F.slot_tuple_add F.entry_tuple_add (F.args_tuple_add_2 _ _) (tuple_addW2 a b is.toArray js.toArray n1 n2 d1 d2 l1 l2 hi hj (by rw[Js,Js];exact Jh (by omega) (show 100000<=sizeLine by decide))) ⟨e1,e2,?_⟩
  refine⟨.ref s.heap.objs.size,_,I.laid (a:=s.heap.objs.size) (o := .tup (xs++ys)) (t':=s.toks) (fun _ _ e=>Jb _ e) (Je _) ?_,rfl,q1 hy _ _ ⟨I.bC.fresh (Je _),rfl⟩⟩
  refine⟨by rw[Jp];exact Jh hl (by decide),is++js,ra.append rb,⟨_,Jk _ rfl,rfl,rfl,0,by simp⟩⟩
theorem FH (K:Ja)(hK:X.K=K:=by rfl):dR X (binaryOp .Add) (HM K):=by subst hK;exact JB
end
section
variable {prog:Program}{w:World}{A:Around}{E:Value->Shared->Prop}{s:Shared}
theorem wU {l:Addr}{o:Obj}{vs:List Value}{n:Nat}{Q:List Value->Shared->Prop}(ho:s.heap.get? l=some o)(hc:o.cls = .type "tuple")(hd:o.data = .seq vs.toArray n)(hz:vs.length<=sizeLine)
  (h:Q vs { s with heap:=(s.heap.push (seqObj "list" #[] 0)).update s.heap.objs.size (Obj.mapSeq (· ++ vs.toArray)) }):wpAny (model prog w) A (collect (.ref l)) Q E s:=by
 unfold collect
 have Wl:(s.heap.push (seqObj "list" #[] 0)).get? l=some o:=Jb _ ho
 have hn:(s.heap.push (seqObj "list" #[] 0)).get? s.heap.objs.size=some (seqObj "list" #[] 0):=Jk _ rfl
 refine wpAny_bind (wpAny_runValue (codeAny_builtin entry_proto_collect' ?_))
 refine wpAny_bind (wpAny_newList (wpAny_pure ⟨Code.quiet_builtin _ (by decide +kernel),codeAny_builtin entry_list_iadd' ?_⟩))
 show wpAny _ _ (Builtin.List.listExtendWith (.ref s.heap.objs.size) (.ref l) (.ref s.heap.objs.size)) _ _ { s with heap:=s.heap.push (seqObj "list" #[] 0) }
 unfold Builtin.List.listExtendWith
 refine wpAny_bind (wpAny_typeOf (T := "tuple") ⟨o,Wl,hc⟩ ?_)
 rw[if_pos (by simp)]
 refine wpAny_bind (listItems_at Wl hd (wpAny_bind (listItems_at hn rfl ?_)))
 rw[if_neg (by simp)]
 have room:((#[]:Array Value)++vs.toArray).size<=sizeLine+1:=by rw[Array.size_append,Js];exact Jh (by show 0+vs.length<=vs.length;omega) (Nat.le_succ_of_le hz)
 refine wpAny_bind (listUpdate_at hn rfl (wpAny_pure (wpAny_bind (wpAny_load (get?_update_seq hn _) ?_))) (Um _) room)
 have e:((#[]:Array Value)++vs.toArray).toList=vs:=by simp
 refine wpAny_pure ?_
 rw[e]
 exact h
theorem yq {l:Addr}{o:Obj}{vs:List Value}{n:Nat}{ss:List Str}{Q:Value->Shared->Prop}(ho:s.heap.get? l=some o)(hc:o.cls = .type "tuple")(hd:o.data = .seq vs.toArray n)(hS:StrsAre vs ss)(pJ:vs.length<64)
  (h:∀(out:Array Value) (ms:List Str),StrsAre out.toList ms->ms.Perm ss->PyProof.Rows.sortedS ms=true->Q (.ref (s.heap.objs.size+1)) { s with heap:=sortedAll s.heap vs out }):wpAny (model prog w) A (call (.builtin "sorted") [.ref l]) Q E s:=by
 have k1:((s.heap.push (seqObj "list" #[] 0)).update s.heap.objs.size (Obj.mapSeq (· ++ vs.toArray))).objs.size=s.heap.objs.size+1:=(Heap.size_update ..).trans (size_push' _ _)
 have k2:(((s.heap.push (seqObj "list" #[] 0)).update s.heap.objs.size (Obj.mapSeq (· ++ vs.toArray))).push (seqObj "list" vs.toArray 0)).get? _=some (seqObj "list" vs.toArray 0):=Jk _ rfl
 have hz:vs.length<=sizeLine:=Jh (U8 pJ) (by decide)
 refine Calls.call_function_entry kind_sorted plain_sorted entry_sorted (args_sorted1 _) ?_
 unfold Builtin.«sorted»
 refine wpAny_bind (m:=checkCount "sorted" 1 1 _) (wpAny_pure (wpAny_bind (wU ho hc hd hz (wpAny_bind (wpAny_newList ?_)))))
 rw[k1] at k2
 show wpAny _ _ _ _ _ { s with heap:=Heap.push _ (seqObj "list" vs.toArray 0) }
 rw[k1]
 refine wpAny_bind (wpAny_holding (wpAny_call_entry slot_list_sort ⟨_,k2,rfl⟩ entry_list_sort (list_sort_treeK strKind_oneLt k2 hS.keysOf (fun v₁ v₂ rest e=>keyKind_strs (by rw[<-e];exact hS)) pJ fun st a1 a2=>⟨_,rfl,wpAny_pure ⟨_,rfl,?_⟩⟩) (args_list_sort _)))
 obtain⟨ms,h1,h2,h3⟩:=sorted_out_str hS a1 a2
 exact h _ ms h1 h2 h3
end
section
variable {X:Cx}(K:Ja)
theorem CQ (hK:X.K=K:=by rfl):bE X (.builtin "sorted") (fun xs H Q=>∃(p:Addr) (ss:List Str),xs=[.ref p]/\br K H p (ss.map V.str)/\ss.length<64 /\
  ∀(ms:List Str) (q:Addr) (H':Hp),ms.Perm ss->PyProof.Rows.sortedS ms=true->gX H q (.lst (ms.map V.str)) H'->Q (.ref q) H'):=by
 subst hK
 intro pins s σ H xs us Q I r h
 obtain⟨p,ss,rfl,hq,hl,q⟩:=h
 obtain⟨u,rfl,ru⟩:=vals1 r
 cases ru
 obtain⟨au,rv,⟨o,ho,hc,n,hd⟩,hz⟩:=I.tuple hq
 have hn:au.length=ss.length:=by have:=rv.length;rw[Jc] at this;exact this.symm
 refine yq ho hc hd (gQ rv) (by omega) fun out ms a1 a2 a3 =>?_
 obtain⟨e,he⟩:=sortedAll_at s.heap au out
 have hm:ms.length=ss.length:=a2.length_eq
 refine⟨.ref (s.heap.objs.size+1),_,I.laid (a:=s.heap.objs.size+1) (o := .lst (ms.map V.str)) (t':=s.toks) (fun _ _=>sortedAll_old) (Yr _) ⟨?_,out.toList,e,kJ a1,?_⟩,rfl,q ms _ _ a2 a3 ⟨I.bC.fresh (Yr _),rfl⟩⟩
 ·rw[Jc];exact Jh (show ms.length<=64 by omega) (by decide)
 ·simpa [seqObj] using he
theorem vg (hK:X.K=K:=by rfl):bE X (.builtin "sorted") (fun xs H Q=>∃(p:Addr) (ss:List Str),xs=[.ref p]/\(bb K H p (ss.map V.str)∨br K H p (ss.map V.str))/\ss.length<64 /\
  ∀(ms:List Str) (q:Addr) (H':Hp),ms.Perm ss->PyProof.Rows.sortedS ms=true->gX H q (.lst (ms.map V.str)) H'->Q (.ref q) H'):=by
 intro pins s σ H xs us Q I r h
 obtain⟨p,ss,e,hq,hl,q⟩:=h
 rcases hq with hq|hq
 ·exact L2.sortedS K hK s σ H xs us Q I r ⟨p,ss,e,hq,hl,q⟩
 ·exact CQ K hK s σ H xs us Q I r ⟨p,ss,e,hq,hl,q⟩
end
theorem CB:typeLookup (.type "tuple") "keys" = pure none:=by rw[typeLookup_type,builtinLookup_eq_fast];kernel_rfl
theorem KL:typeLookup (.type "tuple") "__getattr__" = pure none:=by rw[typeLookup_type,builtinLookup_eq_fast];kernel_rfl
section
variable {prog:Program}{w:World}{A:Around}{E:Value->Shared->Prop}{h:Heap}{g:Array GenState}{d:Drawn}{t:Nat}{os:OsState}{a:Addr}{o:Obj}
theorem vo {tk:Tok}{Q:Fin->Shared->Prop}(hx:h.get? a=some o)(hc:o.cls = .type "tuple")(nU:o.dict=none){xs:Array Value}{n:Nat}(hd:o.data = .seq xs n)(hh:A.handled=none)
  (hq:∀e h' t',(∀b o,h.get? b=some o->h'.get? b=some o)->(∃oe,h'.get? e=some oe/\oe.cls = .type "AttributeError")->E (.ref e) ⟨h',g,d,t',os⟩) :
  wpAny (model prog w) A (Builtin.«object.__getattribute__» ⟨[.ref a,.str "keys" tk],[]⟩) Q E ⟨h,g,d,t,os⟩:=by
 have hT:(⟨h,g,d,t,os⟩:Shared).TypeIs (.ref a) "tuple":=⟨_,hx,hc⟩
 have f4:=CB
 repeat (any_goals (first|assumption|wp_step))
 rw[hd]
 dsimp only
 unfold instanceDict
 repeat (any_goals (first|assumption|wp_step))
 rw[nU,hc]
 repeat (any_goals (first|assumption|wp_step))
 have f9:=lR
 unfold raiseAttrError noteAttr
 wp_walk
 rw[show(Manifest.find? "AttributeError").elim false (fun t=>t.mro.contains "StopIteration" || t.mro.contains "SystemExit")=false by decide +kernel,if_neg Jl]
 repeat (any_goals (first|assumption|wp_step))
 refine wpAny_raiseNew_none hh (hq _ _ _ (fun b o' x =>?_) ⟨_,J3 _ (Jk _ rfl) rfl,rfl⟩)
 have x1:=Jb (h:=h) { cls:=Value.type "tuple",data:=Data.seq #[Value.str (Str.ofString (toString "'" ++ toString ((Manifest.find? "tuple").elim "tuple" fun x=>x.tpName)++toString "' object has no attribute '")++Str.ofString "keys" ++ Str.ofString "'") t] } x
 rw[J5 _ _ (Uc (Jf x1))]
 exact Jb _ x1
theorem wu {tk:Tok}{R:Result->Shared->Prop}(hx:h.get? a=some o)(hc:o.cls = .type "tuple")(nU:o.dict=none){xs:Array Value}{n:Nat}(hd:o.data = .seq xs n)(hh:A.handled=none)
  (hq:∀e h' t',(∀b o,h.get? b=some o->h'.get? b=some o)->(∃oe,h'.get? e=some oe/\oe.cls = .type "AttributeError")->R (.error (.ref e)) ⟨h',g,d,t',os⟩) :
  codeAny (model prog w) A (.call (.builtin "tuple.__getattribute__") ⟨[.ref a,.str "keys" tk],[]⟩) R ⟨h,g,d,t,os⟩:=
 codeAny_call_builtin F.slot_tuple_getattribute.plain F.entry_tuple_ga (F.slot_tuple_getattribute.check _ _ _ _ _ _ _ _ (show(⟨h,g,d,t,os⟩:Shared).TypeIs (.ref a) "tuple" from⟨_,hx,hc⟩) (F.args_tuple_getattribute_2 _ _) (vo hx hc nU hd hh hq))
theorem yi {Q:Option Value->Shared->Prop}(hx:h.get? a=some o)(hc:o.cls = .type "tuple")(nU:o.dict=none){xs:Array Value}{n:Nat}(hd:o.data = .seq xs n)(hh:A.handled=none)
  (hq:∀h' t',(∀b o,h.get? b=some o->h'.get? b=some o)->Q none ⟨h',g,d,t',os⟩):wpAny (model prog w) A (getAttr? (.ref a) "keys") Q E ⟨h,g,d,t,os⟩:=by
 have hT:(⟨h,g,d,t+1,os⟩:Shared).TypeIs (.ref a) "tuple":=⟨_,hx,hc⟩
 have f2:=F.slot_tuple_getattribute.lookup
 have f3:=F.slot_tuple_getattribute.bind (.ref a)
 have f4:=KL
 unfold getAttr? getAttrBy?
 repeat (any_goals (first|assumption|wp_step))
 refine wu hx hc nU hd hh fun e h' t' k hoe =>?_
 have Nl:Shared.TypeIs ⟨h',g,d,t',os⟩ (.ref e) "AttributeError":=hoe
 have f5:=lR
 dsimp only
 unfold getattributeRaised
 refine wpAny_bind (wpAny_isInstance (T := "AttributeError") (b:=true) Nl f5 ?_)
 rw[if_pos rfl]
 unfold hookBehind
 repeat (any_goals (first|assumption|wp_step))
 exact hq h' t' k
end
section
variable {prog:Program}{w:World}{K:Type}[DecidableEq K]{knd:KeyKind prog w K}{A:Around}{E:Value->Shared->Prop}
theorem mi {s:Shared}{R:Result->Shared->Prop}{it l d:Addr}{items:Array Value}{kvs:List (K×Value)}{g:Heap}(hh:A.in1.handled=none)(hl:g.IsTuple l items)(hn:items.size=kvs.length)(hz:kvs.length<=100000)
  (hp:∀(j:Nat) v kv,items[j]? = some v->kvs[j]? = some kv->jx knd g v kv) (lit:∀b o,g.get? b=some o->b≠it/\b≠d) (ne:d≠it)
  (fin:∀h tk,(∀b o,b≠d->b≠it->g.get? b=some o->h.get? b=some o)->h.DictOf knd d (merged [] kvs)->R (.ok (.ret .none)) { s with heap:=h,toks:=tk }) :
  ∀(k i:Nat) (h:Heap) (tk:Nat) (acc:List (K×Value)),i+k=kvs.length->acc.length<=i->merged acc (kvs.drop i)=merged [] kvs->(∀b o,b≠d->b≠it->g.get? b=some o->h.get? b=some o)->h.IsTupleIter it l i->h.DictOf knd d acc ->
   codeAny (model prog w) A (.builtin "dict.update.loop" ⟨[.ref d,.ref it,rawInt i,.none],[]⟩) R { s with heap:=h,toks:=tk }
 | 0,i,h,tk,acc,hk,ha,hm,kp,hi,hd=>by
  have e:i=kvs.length:=by omega
  subst e
  have GD:h.IsTuple l items:=by
   obtain⟨o,ho,r⟩:=hl
   exact⟨o,kp _ _ (lit _ _ ho).2 (lit _ _ ho).1 ho,r⟩
  refine codeAny_builtin cg ?_
  rw[Around.under_plainId aY _]
  unfold Builtin.«dict.update.loop»
  refine wpAny_bind (wpAny_pyNext_tuple_end (s:={ s with heap:=h,toks:=tk }) hh hi GD (by rw[Yj (by omega)]) fun h' eb =>?_)
  refine wpAny_bind (m:=Builtin.Dict.addKeywords d []) (wpAny_pure (wpAny_pure ?_))
  refine fin h' tk (fun b o nd ni x=>eb b o ni (kp b o nd ni x)) ?_
  rw[List.drop_length] at hm
  have hm:acc=merged [] kvs:=hm
  rw[<-hm]
  obtain⟨o,es,ep,ho,r⟩:=hd
  exact⟨o,es,ep,eb _ _ ne ho,r⟩
 | k+1,i,h,tk,acc,hk,ha,hm,kp,hi,hd=>by
  have hW:i<kvs.length:=by omega
  have GD:h.IsTuple l items:=by
   obtain⟨o,ho,r⟩:=hl
   exact⟨o,kp _ _ (lit _ _ ho).2 (lit _ _ ho).1 ho,r⟩
  have FY:items[i]? = some items[i]:=J9 (by omega)
  obtain⟨tp,o,n,ku,ev,ho,hc,hdat,hkey⟩:=hp i _ _ FY (Jd hW)
  refine codeAny_builtin cg ?_
  rw[Around.under_plainId aY _]
  unfold Builtin.«dict.update.loop»
  refine wpAny_bind (wpAny_pyNext_tuple_item (s:={ s with heap:=h,toks:=tk }) hi GD FY fun h1 hi1 E7 =>?_)
  rw[ev]
  have Io:h1.get? tp=some o:=E7.extBut _ _ (lit _ _ ho).1 (kp _ _ (lit _ _ ho).2 (lit _ _ ho).1 ho)
  have LH:h1.DictOf knd d acc:=by
   obtain⟨o,es,ep,ho,r⟩:=hd
   exact⟨o,es,ep,E7.extBut _ _ ne ho,r⟩
  have hT:Shared.TypeIs { s with heap:=h1,toks:=tk } (.ref tp) "tuple":=⟨o,Io,hc⟩
  refine wpAny_bind (wpAny_holding ?_)
  refine wpAny_bind (wpAny_tryCatch ?_)
  unfold Builtin.Dict.pairItems
  refine wpAny_bind (wpAny_typeOf hT ?_)
  rw[if_pos (by decide)]
  refine wpAny_bind (wpAny_seqItems (s:={ s with heap:=h1,toks:=tk }) Io hdat (wpAny_pure ?_))
  refine wpAny_holding (wpAny_dictSet_pairs (s:={ s with heap:=h1,toks:=tk }) hkey LH (fun h2 Kq sb2 =>?_) (Jh (show acc.length<=100000 by omega) (by decide)))
  refine wpAny_pure ⟨plainId_quiet aY _,?_⟩
  have:=mi hh hl hn hz hp lit ne fin k (i+1) h2 (tk+1) (stored acc kvs[i].1 kvs[i].2) (by omega) ?_ ?_ (fun b o nd ni x=>sb2.extBut b o nd (E7.extBut b o ni (kp b o nd ni x))) ?_ Kq
  ·exact this
  ·refine Jh ?_ (Y9 ha)
   unfold stored
   split
   ·rw[Jc];exact Yr _
   ·rw[Jp];exact Je _
  ·rw[<-hm,List.drop_eq_getElem_cons hW]
   rfl
  ·obtain⟨oi,e1,r⟩:=hi1
   exact⟨oi,sb2.extBut _ _ (Ne.symm ne) e1,r⟩
theorem uh {s:Shared}{Q:Value->Shared->Prop}{l:Addr}{items:Array Value}{kvs:List (K×Value)}{ol:Obj}{n:Nat}(hh:A.handled=none)(ho:s.heap.get? l=some ol)(hc:ol.cls = .type "tuple")(nU:ol.dict=none)(hd:ol.data = .seq items n)(hn:items.size=kvs.length)(hz:kvs.length<=100000)
  (hp:∀(j:Nat) v kv,items[j]? = some v->kvs[j]? = some kv->jx knd s.heap v kv)
  (fin:∀h tk,(∀b o,s.heap.get? b=some o->h.get? b=some o)->h.DictOf knd s.heap.objs.size (merged [] kvs)->Q (.ref s.heap.objs.size) { s with heap:=h,toks:=tk }) :
  wpAny (model prog w) A (call (.type "dict") [.ref l]) Q E s:=by
 refine callType_codes (Q₁:=fun obj s₁=>obj = .ref s.heap.objs.size/\s₁={ s with heap:=s.heap.push { cls := .type "dict",data := .dict #[] } }) F.kt_called_dict (F.kt_typeCall_dict_1 _) F.entry_dict_init (kt_code_dict_new _ ⟨rfl,rfl⟩) ?_
 rintro obj s1 ⟨rfl,rfl⟩
 have new:(s.heap.push { cls := .type "dict",data := .dict #[] }).DictOf knd s.heap.objs.size []:=Heap.DictOf.new s.heap
 have k0:∀b o,s.heap.get? b=some o->(s.heap.push { cls := .type "dict",data := .dict #[] }).get? b=some o:=fun b o x=>Jb _ x
 refine⟨new.typeIs,F.args_dict_init_2 _ _,?_⟩
 unfold Builtin.«dict.__init__» Builtin.Dict.selfAndRest
 refine wpAny_bind (wpAny_bind (wpAny_notOrdered_dict new.typeIs ?_))
 show wpAny _ _ (pure (s.heap.objs.size,[Value.ref l])) _ _ _
 refine wpAny_pure ?_
 show wpAny _ _ (Builtin.Dict.updateFrom "dict.__init__" s.heap.objs.size (.ref l) [] .none) _ _ _
 unfold Builtin.Dict.updateFrom
 have hT:Shared.TypeIs { s with heap:=s.heap.push { cls := .type "dict",data := .dict #[] } } (.ref l) "tuple":=⟨ol,k0 _ _ ho,hc⟩
 refine wpAny_bind (wpAny_typeOf hT ?_)
 rw[if_pos (by decide)]
 refine wpAny_bind (yi (h:=s.heap.push { cls := .type "dict",data := .dict #[] }) (k0 _ _ ho) hc nU hd hh fun h1 t1 k1 =>?_)
 rw[if_pos (by rfl)]
 have kk:∀b o,s.heap.get? b=some o->h1.get? b=some o:=fun b o x=>k1 b o (k0 b o x)
 refine wpAny_bind (wpAny_rule (wpAny_bind (wpAny_pyIter_tuple (t:=l) (items:=items) ⟨ol,kk _ _ ho,hc,n,hd⟩ ?_)))
 have hS:s.heap.objs.size<h1.objs.size:=by
  obtain⟨o,es,ep,e,_⟩:=new
  exact Jf (k1 _ _ e)
 refine wpAny_pure ⟨plainId_quiet aY _,?_⟩
 have low:∀b o,s.heap.get? b=some o->b≠h1.objs.size/\b≠s.heap.objs.size:=fun b o x=>⟨Jm (Jf (kk b o x)),Jm (Jf x)⟩
 refine mi (s:=s) (knd:=knd) (A:=A.in1) (it:=h1.objs.size) (g:=s.heap) (kvs:=kvs) hh ⟨ol,ho,hc,n,hd⟩ hn hz hp low (Jm hS) (fun h tk k dd=>⟨rfl,fin h tk (fun b o x=>k b o (low b o x).2 (low b o x).1 x) dd⟩) kvs.length 0 _ _ [] (by omega) (Je _) rfl (fun b o nd ni x=>Jb _ (kk b o x)) ⟨_,Jk _ rfl,rfl,rfl⟩ ?_
 obtain⟨o,es,ep,e,r⟩:=new
 exact⟨o,es,ep,Jb _ (k1 _ _ e),r⟩
end
section
variable {X:Cx}{pins:List (Addr×Obj)}{σ:St}{H:Hp}{s:Shared}
theorem Lw (K:Ja)(hc:X.calm=true)(hK:X.K=K:=by rfl):bE X (.type "dict") (fun xs H Q=>∃(p:Addr) (as:List Addr) (kvs:List (Key×V)),xs=[.ref p]/\br K H p (as.map V.ref)/\as.length=kvs.length/\kvs.length<=100000 /\
  (∀(j:Nat) b kv,as[j]? = some b->kvs[j]? = some kv->br K H b [kV kv.1,kv.2])/\∀d H',gX H d (.dK (cz [] kvs)) H'->Q (.ref d) H'):=by
 subst hK
 intro pins s σ H xs us Q I r h
 obtain⟨p,as,kvs,rfl,hp,hl,hz,ht,q⟩:=h
 obtain⟨u,rfl,ru⟩:=vals1 r
 cases ru
 obtain⟨au,rv,⟨o,e1,e3,e2,n,e4⟩,_⟩:=I.oG hp
 obtain⟨vs,kv,pa⟩:=qF I _ hl ht
 have hits:=jK rv
 have kl:=kv.length
 refine uh (knd:=bw X.prog X.w) (kvs:=vs) (I.ok.hd hc) e1 e2 e3 e4 (by rw[hits];simp;omega) (by omega) (fun j v kw h1 h2 =>?_) fun h1 tk k1 dd =>?_
 ·rw[hits] at h1
  simp only[List.getElem?_toArray,Ji] at h1
  cases e:as[j]? with
  | none=>rw[e] at h1;cases h1
  | some b=>rw[e] at h1;cases h1;exact pa j b kw e h2
 ·have ml:=de kvs []
  have big:=I.big
  refine⟨.ref s.heap.objs.size,_,I.laid (a:=s.heap.objs.size) (o := .dK (cz [] kvs)) (t':=tk) k1 (Je _) ⟨Jh (show _<=100000 by simp at ml;omega) (by decide),?_,_,KV.merge kv .nil,dd⟩,rfl,q _ _ ⟨I.bC.fresh (Je _),rfl⟩⟩
  exact beq_eq_false_iff_ne.mpr (Uc big)
theorem tH (K:Ja)(hc:X.calm=true)(hK:X.K=K:=by rfl):bE X (.type "dict") (fun xs H Q=>∃(p:Addr) (as:List Addr) (kvs:List (Key×V)),xs=[.ref p]/\(bb K H p (as.map V.ref)∨br K H p (as.map V.ref))/\as.length=kvs.length/\kvs.length<=100000 /\
  (∀(j:Nat) b kv,as[j]? = some b->kvs[j]? = some kv->br K H b [kV kv.1,kv.2])/\∀d H',gX H d (.dK (cz [] kvs)) H'->Q (.ref d) H'):=by
 intro pins s σ H xs us Q I r h
 obtain⟨p,as,kvs,e,hp,hl⟩:=h
 rcases hp with hp|hp
 ·exact yR K hc hK s σ H xs us Q I r ⟨p,as,kvs,e,hp,hl⟩
 ·exact Lw K hc hK s σ H xs us Q I r ⟨p,as,kvs,e,hp,hl⟩
theorem L9 (hc:X.calm=true):bE X (.type "list") (fun xs H Q=>qi fun(d:Addr) (es:Array DictEntry) (n:Nat) (kvs:List (Str×Value))=>xs=[.ref d]/\yX X.K X.prog X.w d es n kvs/\kvs.length<=1000/\∀p H',gX H p (.lst ((kvs.map (·.1)).map V.str)) H'->Q (.ref p) H'):=by
 intro pins s σ H xs us Q I r h
 obtain⟨d,es,n,kvs,rfl,D,pJ,q⟩:=h
 obtain⟨u,rfl,ru⟩:=vals1 r
 cases ru
 refine kdl_call (kdl_dict (knd:=PySem.strKind X.prog X.w) (kvs:=kvs) (ep:=n) D.ns) (I.ok.hd hc) (D.at I.je) (Jh pJ (by decide)) fun h' tk acc c k hS items =>?_
 refine⟨.ref s.heap.objs.size,_,I.laid (a:=s.heap.objs.size) (o := .lst ((kvs.map (·.1)).map V.str)) (t':=tk) k (Je _) ⟨by rw[Jc,Jc];exact Jh pJ (by decide),acc.toList,c,?_,by simpa using hS⟩,rfl,q _ _ ⟨I.bC.fresh (Je _),rfl⟩⟩
 have hi:∀(j:Nat) v,acc.toList[j]? = some v->∃k x,kvs[j]? = some (k,x)/\(PySem.strKind X.prog X.w).is k v=true:=fun j v ej=>items.2 j v (by rw[<-Array.getElem?_toList];exact ej)
 have hl:acc.toList.length=kvs.length:=by rw[Uo];exact items.1
 generalize acc.toList=au at hi hl
 clear D items q pJ
 induction kvs generalizing au with
 | nil=>rw[Yu hl];exact .nil
 | cons p kvs ih=>
  cases au with
  | nil=>cases hl
  | cons v au=>
   refine .cons ?_ (ih au (fun j u e=>hi (j+1) u e) (Nat.succ.inj hl))
   obtain⟨k,x,e1,e2⟩:=hi 0 v rfl
   cases e1
   obtain⟨t,e3⟩:=Value.isStrOf_shape e2
   exact⟨t,e3⟩
end
theorem DY:typeLookup (.type "zip") "keys" = pure none:=by rw[typeLookup_type,builtinLookup_eq_fast];kernel_rfl
theorem Kp:typeLookup (.type "zip") "__getattr__" = pure none:=by rw[typeLookup_type,builtinLookup_eq_fast];kernel_rfl
theorem Lo:entryFor table "zip.__getattribute__" = some Builtin.«object.__getattribute__»:=entryFor_alias (id' := "object.__getattribute__") (by kernel_rfl) (by decide +kernel) (by decide +kernel) (by kernel_rfl)
section
variable {prog:Program}{w:World}{A:Around}{E:Value->Shared->Prop}{h:Heap}{g:Array GenState}{d:Drawn}{t:Nat}{os:OsState}{a:Addr}{o:Obj}{fs:Array Value}
theorem uF {tk:Tok}{Q:Fin->Shared->Prop}(hx:h.get? a=some o)(hc:o.cls = .type "zip")(nU:o.dict=none)(hd:o.data = .fields fs)(hh:A.handled=none)
  (hq:∀e h' t',(∀b o,h.get? b=some o->h'.get? b=some o)->(∃oe,h'.get? e=some oe/\oe.cls = .type "AttributeError")->E (.ref e) ⟨h',g,d,t',os⟩) :
  wpAny (model prog w) A (Builtin.«object.__getattribute__» ⟨[.ref a,.str "keys" tk],[]⟩) Q E ⟨h,g,d,t,os⟩:=by
 have hT:(⟨h,g,d,t,os⟩:Shared).TypeIs (.ref a) "zip":=⟨_,hx,hc⟩
 have f4:=DY
 repeat (any_goals (first|assumption|wp_step))
 rw[hd]
 dsimp only
 unfold instanceDict
 repeat (any_goals (first|assumption|wp_step))
 rw[nU,hc]
 repeat (any_goals (first|assumption|wp_step))
 have f9:=lR
 unfold raiseAttrError noteAttr
 wp_walk
 rw[show(Manifest.find? "AttributeError").elim false (fun t=>t.mro.contains "StopIteration" || t.mro.contains "SystemExit")=false by decide +kernel,if_neg Jl]
 repeat (any_goals (first|assumption|wp_step))
 refine wpAny_raiseNew_none hh (hq _ _ _ (fun b o' x =>?_) ⟨_,J3 _ (Jk _ rfl) rfl,rfl⟩)
 have x1:=Jb (h:=h) { cls:=Value.type "tuple",data:=Data.seq #[Value.str (Str.ofString (toString "'" ++ toString ((Manifest.find? "zip").elim "zip" fun x=>x.tpName)++toString "' object has no attribute '")++Str.ofString "keys" ++ Str.ofString "'") t] } x
 rw[J5 _ _ (Uc (Jf x1))]
 exact Jb _ x1
theorem xR {Q:Option Value->Shared->Prop}(hx:h.get? a=some o)(hc:o.cls = .type "zip")(nU:o.dict=none)(hd:o.data = .fields fs)(hh:A.handled=none)
  (hq:∀h' t',(∀b o,h.get? b=some o->h'.get? b=some o)->Q none ⟨h',g,d,t',os⟩):wpAny (model prog w) A (getAttr? (.ref a) "keys") Q E ⟨h,g,d,t,os⟩:=by
 have hT:(⟨h,g,d,t+1,os⟩:Shared).TypeIs (.ref a) "zip":=⟨_,hx,hc⟩
 have f2:=F.slot_zip_getattribute.lookup
 have f3:=F.slot_zip_getattribute.bind (.ref a)
 have f4:=Kp
 unfold getAttr? getAttrBy?
 repeat (any_goals (first|assumption|wp_step))
 refine codeAny_call_builtin F.slot_zip_getattribute.plain Lo (F.slot_zip_getattribute.check _ _ _ _ _ _ _ _ hT (F.args_zip_getattribute_2 _ _) (uF hx hc nU hd hh fun e h' t' k hoe =>?_))
 have Nl:Shared.TypeIs ⟨h',g,d,t',os⟩ (.ref e) "AttributeError":=hoe
 have f5:=lR
 dsimp only
 unfold getattributeRaised
 refine wpAny_bind (wpAny_isInstance (T := "AttributeError") (b:=true) Nl f5 ?_)
 rw[if_pos rfl]
 unfold hookBehind
 repeat (any_goals (first|assumption|wp_step))
 exact hq h' t' k
end
section
variable {prog:Program}{w:World}{K:Type}[DecidableEq K]{knd:KeyKind prog w K}{A:Around}{E:Value->Shared->Prop}
variable {it d:Addr}{T:String}{fp:Addr->Prop}{n:Nat}{P:Nat->Value->Heap->Prop}{R:Value->Value->Prop}{St:Nat->Heap->Prop}
theorem ug {s:Shared}{Z:Result->Shared->Prop}{kvs:List (K×Value)}{g:Heap}(Fd:vT prog w A.in1 it d T fp n P R St)(hn:n=kvs.length)(hz:kvs.length<=100000)
  (hp:∀(j:Nat) v kv h,P j v h->kvs[j]? = some kv->jx knd h v kv)
  (fin:∀h tk,Keeps g h (fun b=>fp b∨b=d)->h.DictOf knd d (merged [] kvs)->Z (.ok (.ret .none)) { s with heap:=h,toks:=tk }) :
  ∀(k i:Nat) (h:Heap) (tk:Nat) (acc:List (K×Value)),i+k=kvs.length->acc.length<=i->merged acc (kvs.drop i)=merged [] kvs->Keeps g h (fun b=>fp b∨b=d)->St i h->h.DictOf knd d acc ->
   codeAny (model prog w) A (.builtin "dict.update.loop" ⟨[.ref d,.ref it,rawInt i,.none],[]⟩) Z { s with heap:=h,toks:=tk }
 | 0,i,h,tk,acc,hk,ha,hm,kp,hi,hd=>by
  have e:i=n:=by omega
  subst e
  refine codeAny_builtin cg ?_
  rw[Around.under_plainId aY _]
  unfold Builtin.«dict.update.loop»
  have dl:d<h.objs.size:=by obtain⟨o,es,ep,ho,r⟩:=hd;exact Jf ho
  refine wpAny_bind (Fd.stop { s with heap:=h,toks:=tk } _ _ hi dl fun h' tk' k' =>?_)
  refine wpAny_bind (m:=Builtin.Dict.addKeywords d []) (wpAny_pure (wpAny_pure ?_))
  refine fin h' tk' (fun b o nb x=>k' b o (fun z=>nb (.inl z)) (kp b o nb x)) ?_
  rw[hn,List.drop_length] at hm
  have hm:acc=merged [] kvs:=hm
  rw[<-hm]
  obtain⟨o,es,ep,ho,r⟩:=hd
  exact⟨o,es,ep,k' _ _ Fd.sfp ho,r⟩
 | k+1,i,h,tk,acc,hk,ha,hm,kp,hi,hd=>by
  have hW:i<kvs.length:=by omega
  have dl:d<h.objs.size:=by obtain⟨o,es,ep,ho,r⟩:=hd;exact Jf ho
  refine codeAny_builtin cg ?_
  rw[Around.under_plainId aY _]
  unfold Builtin.«dict.update.loop»
  refine wpAny_bind (Fd.item i { s with heap:=h,toks:=tk } _ _ (by omega) hi dl fun v h1 tk1 k1 j1 p1 r1 =>?_)
  obtain⟨tp,o,m,ku,ev,Io,hc,hdat,hkey⟩:=hp i _ _ _ p1 (Jd hW)
  subst ev
  have LH:h1.DictOf knd d acc:=by
   obtain⟨o,es,ep,ho,r⟩:=hd
   exact⟨o,es,ep,k1 _ _ Fd.sfp ho,r⟩
  have hT:Shared.TypeIs { s with heap:=h1,toks:=tk1 } (.ref tp) "tuple":=⟨o,Io,hc⟩
  refine wpAny_bind (wpAny_holding ?_)
  refine wpAny_bind (wpAny_tryCatch ?_)
  unfold Builtin.Dict.pairItems
  refine wpAny_bind (wpAny_typeOf hT ?_)
  rw[if_pos (by decide)]
  refine wpAny_bind (wpAny_seqItems (s:={ s with heap:=h1,toks:=tk1 }) Io hdat (wpAny_pure ?_))
  refine wpAny_holding (wpAny_dictSet_pairs (s:={ s with heap:=h1,toks:=tk1 }) hkey LH (fun h2 Kq sb2 =>?_) (Jh (show acc.length<=100000 by omega) (by decide)))
  refine wpAny_pure ⟨plainId_quiet aY _,?_⟩
  have Vz:Keeps h1 h2 (· = d):=fun b o nb x=>sb2.extBut b o nb x
  refine ug Fd hn hz hp fin k (i+1) h2 _ (stored acc kvs[i].1 kvs[i].2) (by omega) ?_ ?_ (fun b o nb x=>Vz b o (fun z=>nb (.inr z)) (k1 b o (fun z=>nb (.inl z)) (kp b o nb x))) (Fd.keepS _ _ _ j1 Vz) Kq
  ·refine Jh ?_ (Y9 ha)
   unfold stored
   split
   ·rw[Jc];exact Yr _
   ·rw[Jp];exact Je _
  ·rw[<-hm,List.drop_eq_getElem_cons hW]
   rfl
theorem DC {s:Shared}{Q:Value->Shared->Prop}{kvs:List (K×Value)}{oz:Obj}{fs:Array Value}(hh:A.handled=none)(hT:T = "zip")(ho:s.heap.get? it=some oz)(hc:oz.cls = .type "zip")(nU:oz.dict=none)(hd:oz.data = .fields fs)
  (Fd:vT prog w A.in1.in1 it s.heap.objs.size T fp n P R St) (hn:n=kvs.length) (hz:kvs.length<=100000) (hp:∀(j:Nat) v kv h,P j v h->kvs[j]? = some kv->jx knd h v kv) (l9:∀h',(∀b o,s.heap.get? b=some o->h'.get? b=some o)->St 0 h')
  (fin:∀h tk,Keeps s.heap h fp->h.DictOf knd s.heap.objs.size (merged [] kvs)->Q (.ref s.heap.objs.size) { s with heap:=h,toks:=tk }) :
  wpAny (model prog w) A (call (.type "dict") [.ref it]) Q E s:=by
 refine callType_codes (Q₁:=fun obj s₁=>obj = .ref s.heap.objs.size/\s₁={ s with heap:=s.heap.push { cls := .type "dict",data := .dict #[] } }) F.kt_called_dict (F.kt_typeCall_dict_1 _) F.entry_dict_init (kt_code_dict_new _ ⟨rfl,rfl⟩) ?_
 rintro obj s1 ⟨rfl,rfl⟩
 have new:(s.heap.push { cls := .type "dict",data := .dict #[] }).DictOf knd s.heap.objs.size []:=Heap.DictOf.new s.heap
 have k0:∀b o,s.heap.get? b=some o->(s.heap.push { cls := .type "dict",data := .dict #[] }).get? b=some o:=fun b o x=>Jb _ x
 refine⟨new.typeIs,F.args_dict_init_2 _ _,?_⟩
 unfold Builtin.«dict.__init__» Builtin.Dict.selfAndRest
 refine wpAny_bind (wpAny_bind (wpAny_notOrdered_dict new.typeIs ?_))
 show wpAny _ _ (pure (s.heap.objs.size,[Value.ref it])) _ _ _
 refine wpAny_pure ?_
 show wpAny _ _ (Builtin.Dict.updateFrom "dict.__init__" s.heap.objs.size (.ref it) [] .none) _ _ _
 unfold Builtin.Dict.updateFrom
 have WY:Shared.TypeIs { s with heap:=s.heap.push { cls := .type "dict",data := .dict #[] } } (.ref it) "zip":=⟨oz,k0 _ _ ho,hc⟩
 refine wpAny_bind (wpAny_typeOf WY ?_)
 rw[if_pos (by decide)]
 refine wpAny_bind (xR (h:=s.heap.push { cls := .type "dict",data := .dict #[] }) (k0 _ _ ho) hc nU hd hh fun h1 t1 k1 =>?_)
 rw[if_pos (by rfl)]
 have kk:∀b o,s.heap.get? b=some o->h1.get? b=some o:=fun b o x=>k1 b o (k0 b o x)
 have j1:=l9 h1 kk
 have Vu:h1.DictOf knd s.heap.objs.size []:=by
  obtain⟨o,es,ep,e,r⟩:=new
  exact⟨o,es,ep,k1 _ _ e,r⟩
 refine wpAny_bind (wpAny_rule (wpAny_bind (Fd.self ⟨h1,s.gens,s.drawn,t1,s.os⟩ _ _ j1 ?_)))
 refine wpAny_pure ⟨plainId_quiet aY _,?_⟩
 refine ug (s:=s) (A:=A.in1) (g:=s.heap) Fd hn hz hp (fun h tk k dd=>⟨rfl,fin h tk (fun b o nb x=>k b o (fun z=>z.elim nb fun z=>bR (Jf x) (Je _) z) x) dd⟩) kvs.length 0 _ _ [] (by omega) (Je _) rfl (fun b o nb x=>kk b o x) j1 Vu
end
section
variable {X:Cx}
theorem La:∀{ks:List Key} {au:List Value},Vals (ks.map kV) au->∀(i:Nat) k u,ks[i]? = some k->au[i]? = some u->RelV (kV k) u
 | ks,au,r,i,k,u,h1,h2=>by
  obtain⟨u',h3,r3⟩:=r.get (i:=i) (x:=kV k) (by rw[Ji,h1];rfl)
  rw[h2] at h3;cases h3;exact r3
def Wm (K:Ja)(ta:TA):TE:=fun σ H Q=>ta σ H fun vs H1=>qi fun(l1 l2:Addr) (ks:List Key) (ys:List V)=>vs=[.ref l1,.ref l2]/\bb K H1 l1 (ks.map kV)/\bb K H1 l2 ys/\ks.length=ys.length/\ks.length<=100000 /\
 ∀d H',gX H1 d (.dK (cz [] (ks.zip ys))) H'->Q (.ref d) H'
theorem xY {a b:Expr}{ta:TA}{p p2 pos j6:Pos}(hc:X.calm=true)(JK:Gl X "dict")(JW:X.mg "dict" = none)(Pb:Gl X "zip")(Oz:X.mg "zip" = none)(ha:PA X [a,b] ta)
  (Ls:bootBuiltins "dict" = some (.type "dict"):=by first|rfl|decide) (Ox:bootBuiltins "zip" = some (.type "zip"):=by first|rfl|decide)
  (Eu:starEach [.Call (.Name "zip" p2) [a,b] [] j6] X.env=[(false,eval (.Call (.Name "zip" p2) [a,b] [] j6) X.env)]:=by rfl)
  (hs:starEach [a,b] X.env=[(false,eval a X.env),(false,eval b X.env)]:=by rfl) (yS:starEach [b] X.env=[(false,eval b X.env)]:=by rfl) :
  PE X (.Call (.Name "dict" p) [.Call (.Name "zip" p2) [a,b] [] j6] [] pos) (Wm X.K ta):=by
 intro pins s σ H Q I h
 refine wpAny_Call_Name_kw (dY I JK JW Ls ?_)
 refine PyProof.Rows.callWith_type1 ?_ Eu rfl
 rw[Eu]
 show wpAny _ _ (spliced ((false,eval (.Call (.Name "zip" p2) [a,b] [] j6) X.env)::[])) _ _ _
 refine Calls.spliced_cons ?_
 refine Call_ (dY I Pb Oz Ox (PyProof.Rows.callWith_type1 (bg (ha s σ H _ I h) fun us s1 hz_=>ai.el hz_ _ fun vs H1 I1 r1 q1 =>?_) (by rw[hs,yS]) (by rw[yS];rfl)))
 obtain⟨l1,l2,ks,ys,e,q1,q2,el,ez,q⟩:=q1
 subst e
 obtain⟨u,w',rfl,r1,r2⟩:=vals2 r1
 cases r1;cases r2
 obtain⟨its1,rv1,p1,hz1⟩:=I1.list q1
 refine ai.el (I1.list q2) _ ?_
 rintro its2 rv2 p2 hz2
 have e1:=rv1.length
 have e2:=rv2.length
 rw[Jc] at e1
 have a1:l1<s1.heap.objs.size:=by obtain⟨_,e,_⟩:=p1.isList;exact Jf e
 have a2:l2<s1.heap.objs.size:=by obtain⟨_,e,_⟩:=p2.isList;exact Jf e
 refine call_zip_2 p1.isList p2.isList fun h' hz oP wa hi1 hi2 hsz hk =>?_
 refine Calls.spliced_nil ?_
 have qG:s1.heap.objs.size<=h'.objs.size:=by rw[hsz];exact Ur _ _
 have jr:∀n,n<5->s1.heap.objs.size+n<h'.objs.size:=fun n hn=>by rw[hsz];exact Nat.add_lt_add_left hn _
 have YD:KV (ks.zip ys) (ks.zip its2):=by
  clear q q1 p1 p2 a1 a2 hi1 hi2 hk hz oP wa
  have:∀{ks:List Key} {ys:List V} {au:List Value},Vals ys au->ks.length=ys.length->KV (ks.zip ys) (ks.zip au):=by
   intro ks
   induction ks with
   | nil=>intro ys au r e;exact .nil
   | cons k ks ih=>
    intro ys au r e
    cases ys with
    | nil=>cases e
    | cons y ys=>
     obtain⟨v,r',rfl,rv1,rv2⟩:=r.hd
     exact .cons ⟨rfl,rv1⟩ (ih rv2 (by simpa using e))
  exact this rv2 el
 have zl:(ks.zip its2).length=ks.length:=by rw[U4];omega
 refine DC (s:={ s1 with heap:=h' }) (knd:=bw X.prog X.w) (kvs:=ks.zip its2) (P:=sP h'.objs.size its1.toArray its2.toArray) (I1.ok.hd hc) rfl hz rfl rfl rfl
  (uZ (I.ok.hd hc) (zipApart_new a1 a2) (jr 4 (by decide)) (jr 2 (by decide)) (jr 3 (by decide)) (jr 0 (by decide)) (jr 1 (by decide)) (Jq a1 qG) (Jq a2 qG)) (by simp;omega) (by omega) (fun j v kv h hP hkv =>?_) (fun h2 k2=>⟨k2 _ _ oP,⟨_,_,k2 _ _ wa⟩,hi1.at fun o e=>k2 _ _ e,hi2.at fun o e=>k2 _ _ e,(p1.isList.at fun o e=>hk _ o e).at fun o e=>k2 _ o e,(p2.isList.at fun o e=>hk _ o e).at fun o e=>k2 _ o e,.inl (k2 _ _ hz)⟩) fun h2 tk k2 dd =>?_
 ·obtain⟨a,x,y,rfl,_,gx,gy,pr⟩:=hP
  have z:=(U5 (z:=kv)).mp hkv
  have gy:its2[j]? = some y:=by simpa using gy
  have gx:its1[j]? = some x:=by simpa using gx
  have ey:y=kv.2:=Option.some.inj (gy.symm.trans z.2)
  subst ey
  exact⟨a,_,_,x,rfl,pr,rfl,rfl,mx (La rv1 j kv.1 x z.1 gx)⟩
 ·have kk:∀b o,s1.heap.get? b=some o->h2.get? b=some o:=fun b o e=>by
   have hb:=Jf e
   have gt:∀n,b≠s1.heap.objs.size+n:=fun n=>Jm (Jq hb (Ur _ _))
   exact k2 b o (fun z=>z.elim (gt 4) fun z=>z.elim (gt 3) fun z=>z.elim (gt 0) (gt 1)) (hk b o e)
  have ml:=de (ks.zip ys) []
  have big:=I1.big
  have VC:(ks.zip ys).length=ks.length:=by rw[U4];omega
  refine⟨.ref h'.objs.size,_,I1.laid (a:=h'.objs.size) (o := .dK (cz [] (ks.zip ys))) (t':=tk) kk qG ⟨Jh (show _<=100000 by simp at ml;omega) (by decide),?_,_,KV.merge YD .nil,dd⟩,rfl,q _ _ ⟨I1.bC.fresh qG,rfl⟩⟩
  exact beq_eq_false_iff_ne.mpr (Uc (Jq big qG))
end
abbrev mv (h:Heap)(it:Addr)(x:Str)(t:Tok)(i:Nat):Prop:=h.IsStrIter it "str_ascii_iterator" x t i
section
variable {prog:Program}{w:World}{A:Around}{E:Value->Shared->Prop}{s:Shared}{z TI TO i1 i2 l a:Addr}{f:Bool}{oa:Obj}{x:Str}{t:Tok}{i c:Nat}{ys:Array Value}
theorem Ad {y:Value}{Q:Option Value->Shared->Prop}(D:ZipApart z TI TO i1 i2 l l)(hz:IsZip s.heap z TI TO .none)(oP:IsPair s.heap TI (.ref i1) (.ref i2))(wa:∃a b,IsPair s.heap TO a b)
  (h1:mv s.heap i1 x t i) (h2:s.heap.IsListIter i2 l i) (hl:s.heap.IsList l ys) (hx:x.cps[i]? = some c) (hy:ys[i]? = some y)
  (q:∀h' tk tk',IsZip h' z TI TO (rawInt s.heap.objs.size)->(∃a b,IsPair h' TO a b)->mv h' i1 x t (i+1)->h'.IsListIter i2 l (i+1)->IsPair h' s.heap.objs.size (.str ⟨#[c]⟩ tk) y->Keeps s.heap h' (mn z TO i1 i2)->Q (some (.ref s.heap.objs.size)) { s with heap:=h',toks:=tk' }) :
  wpAny (model prog w) A (pyNext (.ref z)) Q E s:=by
 obtain⟨a,b,wa⟩:=wa
 have hT:s.TypeIs (.ref z) "zip":=⟨_,hz,rfl⟩
 unfold pyNext
 refine wpAny_bind (wpAny_attempt (wpAny_callSpecial?_slot (name:=Str.ofString "__next__") hT F.slot_zip_next (wpAny_call_entry F.slot_zip_next hT F.entry_zip_next ?_ (F.args_zip_next_1 _))))
 change wpAny _ _ (Bind.bind (field (.ref z) 2) _) _ _ _
 refine wpAny_bind (wpAny_field hz rfl (x := .bool false) rfl ?_)
 change wpAny _ _ (Bind.bind (field (.ref z) 3) _) _ _ _
 refine wpAny_bind (wpAny_field hz rfl (x := .ref TI) rfl (wpAny_bind (wpAny_seqItems oP rfl ?_)))
 change wpAny _ _ (Bind.bind (Builtin.SmallTypes.ownedTupleIsFree (.ref z)) _) _ _ _
 refine wpAny_bind ?_
 unfold Builtin.SmallTypes.ownedTupleIsFree
 refine wpAny_bind (wpAny_field hz rfl (x := .none) rfl (wpAny_pure ?_))
 simp -iota only [if_true]
 refine wpAny_bind (wpAny_rule (wpAny_bind (wpAny_field hz rfl (x := .ref TO) rfl (wpAny_bind (wpAny_setField_rec hz (by simp) fun g1 z1 e1=>wpAny_bind ?_)))))
 simp -iota only [List.zipIdx_cons,List.zipIdx_nil,Yn,Wa]
 refine wpAny_bind (wpAny_bind (wpAny_onRaise ?_))
 change wpAny _ _ (Bind.bind (Builtin.SmallTypes.nextOf (.ref i1)) _) _ _ _
 refine wpAny_bind (wpAny_nextOf_ascii_item (s:={ s with heap:=g1 }) (cI h1 fun o e=>e1.extBut _ _ D.i1z e) hx fun g2 it1 e2=>wpAny_pure ?_)
 have to2:IsPair g2 TO a b:=e2.extBut _ _ D.TOi1 (e1.extBut _ _ D.TOz wa)
 refine wpAny_bind (wpAny_seqItems to2 rfl (wpAny_bind (wpAny_updateSeq_pair to2 fun g3 to3 e3=>wpAny_bind (wpAny_letGo (wpAny_pure ?_)))))
 have to3:IsPair g3 TO (.str ⟨#[c]⟩ s.toks) b:=to3
 have Bz:Keeps s.heap g3 (fun c=>c=z∨c=i1∨c=TO):=fun c o nc e=>e3.extBut _ _ (fun q=>nc (.inr (.inr q))) (e2.extBut _ _ (fun q=>nc (.inr (.inl q))) (e1.extBut _ _ (fun q=>nc (.inl q)) e))
 refine wpAny_bind (wpAny_bind (wpAny_onRaise ?_))
 change wpAny _ _ (Bind.bind (Builtin.SmallTypes.nextOf (.ref i2)) _) _ _ _
 refine wpAny_bind (wpAny_nextOf_list_item (h2.at fun o e=>Bz _ _ (fun q=>q.elim D.i2z fun q=>q.elim D.i12.symm D.TOi2.symm) e) (hl.at fun o e=>Bz _ _ (fun q=>q.elim D.l2z fun q=>q.elim D.l2i1 D.l2TO) e) hy fun g4 it2 e4=>wpAny_pure ?_)
 have Na:IsPair g4 TO (.str ⟨#[c]⟩ s.toks) b:=e4.extBut _ _ D.TOi2 to3
 refine wpAny_bind (wpAny_seqItems Na rfl (wpAny_bind (wpAny_updateSeq_pair Na fun g5 Fx e5=>wpAny_bind (wpAny_letGo (wpAny_pure (wpAny_pure ?_))))))
 have Fx:IsPair g5 TO (.str ⟨#[c]⟩ s.toks) y:=Fx
 refine wpAny_bind (wpAny_seqItems Fx rfl (wpAny_bind (wpAny_newTuple ?_)))
 have hsz:g5.objs.size=s.heap.objs.size:=by rw[e5.1,e4.1,e3.1,e2.1,e1.1]
 have z5:IsZip g5 z TI TO .ellipsis:=e5.extBut _ _ D.TOz.symm (e4.extBut _ _ D.i2z.symm (e3.extBut _ _ D.TOz.symm (e2.extBut _ _ D.i1z.symm z1)))
 have k5:Keeps s.heap g5 (mn z TO i1 i2):=fun c o nc e=>e5.extBut _ _ (fun q=>nc (.inr (.inl q))) (e4.extBut _ _ (fun q=>nc (.inr (.inr (.inr q)))) (Bz c o (fun q=>q.elim (fun q=>nc (.inl q)) fun q=>q.elim (fun q=>nc (.inr (.inr (.inl q)))) fun q=>nc (.inr (.inl q))) e))
 have Kb:mv g5 i1 x t (i+1):=cI it1 fun o e=>e5.extBut _ _ D.TOi1.symm (e4.extBut _ _ D.i12 (e3.extBut _ _ D.TOi1.symm e))
 have Ke:g5.IsListIter i2 l (i+1):=it2.at fun o e=>e5.extBut _ _ D.TOi2.symm e
 have Py:z<g5.objs.size:=Jf z5
 change wpAny _ _ (Bind.bind (Builtin.SmallTypes.ownedTupleHandOut (.ref z) (.ref g5.objs.size)) _) _ _ _
 refine wpAny_bind ?_
 unfold Builtin.SmallTypes.ownedTupleHandOut
 have z6:IsZip (g5.push { cls := .type "tuple",data := .seq #[.str ⟨#[c]⟩ s.toks,y] }) z TI TO .ellipsis:=Jb _ z5
 refine wpAny_bind (wpAny_setField_rec z6 (by simp) fun g7 z7 e7 =>?_)
 have z7:IsZip g7 z TI TO (rawInt g5.objs.size):=z7
 refine wpAny_setField_rec z7 (by simp) fun g8 z8 e8=>wpAny_pure ⟨_,rfl,wpAny_pure ?_⟩
 have up:∀c o,c≠z->g5.get? c=some o->g8.get? c=some o:=fun c o c1 e=>e8.extBut _ _ c1 (e7.extBut _ _ c1 (Jb _ e))
 have tp:IsPair g8 g5.objs.size (.str ⟨#[c]⟩ s.toks) y:=e8.extBut _ _ (Uc Py) (e7.extBut _ _ (Uc Py) (Jk _ rfl))
 have z8:IsZip g8 z TI TO (rawInt g5.objs.size):=z8
 show Q (some (.ref g5.objs.size)) _
 rw[hsz] at z8 tp ⊢
 exact q g8 s.toks (s.toks+1) z8 ⟨_,_,up _ _ D.TOz Fx⟩ (cI Kb fun o e=>up _ o D.i1z e) (Ke.at fun o e=>up _ o D.i2z e) tp fun c o nc e=>up c o (fun q=>nc (.inl q)) (k5 c o nc e)
theorem Cr {y:Value}{Q:Option Value->Shared->Prop}(D:ZipApart z TI TO i1 i2 l l)(hz:fY s.heap z TI TO a f)(ha:s.heap.get? a=some oa)(oP:IsPair s.heap TI (.ref i1) (.ref i2))
  (h1:mv s.heap i1 x t i) (h2:s.heap.IsListIter i2 l i) (hl:s.heap.IsList l ys) (hx:x.cps[i]? = some c) (hy:ys[i]? = some y)
  (q:∀h' tk tk',fY h' z TI TO a true->mv h' i1 x t (i+1)->h'.IsListIter i2 l (i+1)->IsPair h' s.heap.objs.size (.str ⟨#[c]⟩ tk) y->Keeps s.heap h' (fun b=>b=z∨b=i1∨b=i2)->Q (some (.ref s.heap.objs.size)) { s with heap:=h',toks:=tk' }) :
  wpAny (model prog w) A (pyNext (.ref z)) Q E s:=by
 have hT:s.TypeIs (.ref z) "zip":=⟨_,hz,rfl⟩
 unfold pyNext
 refine wpAny_bind (wpAny_attempt (wpAny_callSpecial?_slot (name:=Str.ofString "__next__") hT F.slot_zip_next (wpAny_call_entry F.slot_zip_next hT F.entry_zip_next ?_ (F.args_zip_next_1 _))))
 change wpAny _ _ (Bind.bind (field (.ref z) 2) _) _ _ _
 refine wpAny_bind (wpAny_field hz rfl (x := .bool false) rfl ?_)
 change wpAny _ _ (Bind.bind (field (.ref z) 3) _) _ _ _
 refine wpAny_bind (wpAny_field hz rfl (x := .ref TI) rfl (wpAny_bind (wpAny_seqItems oP rfl ?_)))
 change wpAny _ _ (Bind.bind (Builtin.SmallTypes.ownedTupleIsFree (.ref z)) _) _ _ _
 refine wpAny_bind (ki hz ha fun h0 z0 k0 =>?_)
 simp -iota only [Us,if_false,<-Array.forIn_toList,Yn,Wa]
 refine wpAny_bind (wpAny_bind (wpAny_bind (wpAny_holding (wpAny_bind (wpAny_nextOf_ascii_item (s:={ s with heap:=h0 }) (cI h1 fun o e=>k0.extBut _ _ D.i1z e) hx fun h4 e4 k4=>wpAny_pure (wpAny_pure ?_))))))
 refine wpAny_bind (wpAny_bind (wpAny_holding (wpAny_bind (wpAny_nextOf_list_item ((h2.extBut k0.extBut D.i2z).extBut k4.extBut D.i12.symm) ((hl.extBut k0.extBut D.l2z).extBut k4.extBut D.l2i1) hy fun h5 e5 k5=>wpAny_pure (wpAny_pure (wpAny_pure ?_))))))
 refine wpAny_bind (wpAny_newTuple (hsz:=by show 2<=sizeLine;decide) (wpAny_pure ⟨_,rfl,wpAny_pure ?_⟩))
 have hsz:h5.objs.size=s.heap.objs.size:=by rw[k5.1,k4.1,k0.1]
 show Q (some (.ref h5.objs.size)) _
 rw[hsz]
 refine q (h5.push { cls := .type "tuple",data := .seq #[.str ⟨#[c]⟩ s.toks,y] }) s.toks (s.toks+1) (Jb _ (k5.extBut _ _ D.i2z.symm (k4.extBut _ _ D.i1z.symm z0))) (cI e4 fun o e=>Jb _ (k5.extBut _ _ D.i12 e)) (e5.at fun o e=>Jb _ e) (by rw[<-hsz];exact Jk _ rfl) fun b o nb e =>?_
 exact Jb _ (k5.extBut _ _ (fun z=>nb (.inr (.inr z))) (k4.extBut _ _ (fun z=>nb (.inr (.inl z))) (k0.extBut _ _ (fun z=>nb (.inl z)) e)))
theorem Et {Q:Option Value->Shared->Prop}(hh:A.handled=none)(D:ZipApart z TI TO i1 i2 l l)(hz:fY s.heap z TI TO a f)(ha:s.heap.get? a=some oa)(oP:IsPair s.heap TI (.ref i1) (.ref i2))
  (h1:mv s.heap i1 x t i) (hx:x.cps[i]? = none)
  (q:∀h',Keeps s.heap h' (fun b=>b=z∨b=i1∨b=i2)->Q none { s with heap:=h' }) :
  wpAny (model prog w) A (pyNext (.ref z)) Q E s:=by
 have hT:s.TypeIs (.ref z) "zip":=⟨_,hz,rfl⟩
 unfold pyNext
 refine wpAny_bind (wpAny_attempt (wpAny_callSpecial?_slot (name:=Str.ofString "__next__") hT F.slot_zip_next (wpAny_call_entry F.slot_zip_next hT F.entry_zip_next ?_ (F.args_zip_next_1 _))))
 change wpAny _ _ (Bind.bind (field (.ref z) 2) _) _ _ _
 refine wpAny_bind (wpAny_field hz rfl (x := .bool false) rfl ?_)
 change wpAny _ _ (Bind.bind (field (.ref z) 3) _) _ _ _
 refine wpAny_bind (wpAny_field hz rfl (x := .ref TI) rfl (wpAny_bind (wpAny_seqItems oP rfl ?_)))
 change wpAny _ _ (Bind.bind (Builtin.SmallTypes.ownedTupleIsFree (.ref z)) _) _ _ _
 refine wpAny_bind (ki hz ha fun h0 z0 k0 =>?_)
 simp -iota only [Us,if_false,<-Array.forIn_toList,Yn,Wa]
 refine wpAny_bind (wpAny_bind (wpAny_bind (wpAny_holding ?_)))
 refine wpAny_bind (wpAny_nextOf_ascii_end (s:={ s with heap:=h0 }) hh (cI h1 fun o e=>k0.extBut _ _ D.i1z e) hx fun h4 e k4 oe =>?_)
 refine ai.el (oe) _ ?_
 rintro o ho hc
 exact wpAny_bind (wpAny_isInstance (T := "StopIteration") (b:=true) ⟨o,ho,hc⟩ isSubtype_stop (wpAny_pure (q h4 fun b o nb x=>k4 _ _ (fun z=>nb (.inr (.inl z))) (k0.extBut _ _ (fun z=>nb (.inl z)) x))))
end
noncomputable abbrev Wt (h:Heap)(x:Str)(t:Tok)(b:Addr):Heap:=((((h.push { cls := .type "str_ascii_iterator",data := .fields #[.str x t,.int 0 0] }).push { cls := .type "list_iterator",data := .fields #[.ref b,.int 0 0] }).push { cls := .type "tuple",data := .seq #[.ref h.objs.size,.ref (h.objs.size+1)] }).push { cls := .type "tuple",data := .seq #[.none,.none] }).push
 { cls := .type "zip",data := .fields #[.none,.bool false,.bool false,.ref (h.objs.size+2),.ref (h.objs.size+3)] }
theorem HF (x:Str)(t:Tok)(b:Addr)(ys:Array Value):
  Meets (Builtin.«zip.__new__» ⟨[.type "zip",.str x t,.ref b],[]⟩) (fun _ R s=>x.cps.all (· < 128)=true/\s.heap.IsList b ys/\R (.ok (.ret (.ref (s.heap.objs.size+4)))) { s with heap:=Wt s.heap x t b }):=
 .of_wp fun prog w A R s h=>by
  obtain⟨hp,g,d,tk,os⟩:=s;obtain⟨hx,u3,h⟩:=h
  have dn:=sub_zip
  have Vq:Heap.IsList (Shared.heap ⟨hp.push { cls := .type "str_ascii_iterator",data := .fields #[.str x t,.int 0 0] },g,d,tk,os⟩) b ys:=u3.at fun o e=>Jb _ e
  have s1:(hp.push { cls := .type "str_ascii_iterator",data := .fields #[.str x t,.int 0 0] }).objs.size=hp.objs.size+1:=J8 ..
  wp_walk using wpAny_pyIter_ascii hx,wpAny_pyIter_list Vq
  refine⟨_,rfl,?_⟩
  simp -iota only [J8] at h ⊢
  exact h
section
variable {prog:Program}{w:World}{A:Around}{E:Value->Shared->Prop}{s:Shared}
theorem Dl {x:Str}{t:Tok}{b:Addr}{ys:Array Value}{Q:Value->Shared->Prop}(h1:x.cps.all (· < 128)=true)(h2:s.heap.IsList b ys)
  (q:∀h',IsZip h' (s.heap.objs.size+4) (s.heap.objs.size+2) (s.heap.objs.size+3) .none->IsPair h' (s.heap.objs.size+2) (.ref s.heap.objs.size) (.ref (s.heap.objs.size+1))->IsPair h' (s.heap.objs.size+3) .none .none->mv h' s.heap.objs.size x t 0->h'.IsListIter (s.heap.objs.size+1) b 0->h'.objs.size=s.heap.objs.size+5->(∀c o,s.heap.get? c=some o->h'.get? c=some o)->Q (.ref (s.heap.objs.size+4)) { s with heap:=h' }) :
  wpAny (model prog w) A (call (.type "zip") [.str x t,.ref b]) Q E s:=by
 refine callType_new F.called_zip (by decide) (F.typeCall_zip_2 _ _) (F.newCall_zip_2 _ _) (fun obj=>F.args_object_init_3 obj _ _) F.entry_zip_new (HF x t b ys) ⟨h1,h2,?_⟩
 have up:∀{h:Heap} {c:Addr} {o:Obj} (p:Obj),h.get? c=some o->(h.push p).get? c=some o:=fun p e=>Jb p e
 have last:∀{h:Heap} {n:Nat} {p:Obj},h.objs.size=n->p.isFreed=false->(h.push p).get? n=some p:=fun e hf=>by rw[<-e];exact Jk _ hf
 have z1:=J8 s.heap { cls := .type "str_ascii_iterator",data := .fields #[.str x t,.int 0 0] }
 have z2:=J8 (s.heap.push { cls := .type "str_ascii_iterator",data := .fields #[.str x t,.int 0 0] }) { cls := .type "list_iterator",data := .fields #[.ref b,.int 0 0] }
 rw[z1] at z2
 have z3:=J8 ((s.heap.push { cls := .type "str_ascii_iterator",data := .fields #[.str x t,.int 0 0] }).push { cls := .type "list_iterator",data := .fields #[.ref b,.int 0 0] }) { cls := .type "tuple",data := .seq #[.ref s.heap.objs.size,.ref (s.heap.objs.size+1)] }
 rw[z2] at z3
 have z4:=J8 (((s.heap.push { cls := .type "str_ascii_iterator",data := .fields #[.str x t,.int 0 0] }).push { cls := .type "list_iterator",data := .fields #[.ref b,.int 0 0] }).push { cls := .type "tuple",data := .seq #[.ref s.heap.objs.size,.ref (s.heap.objs.size+1)] }) { cls := .type "tuple",data := .seq #[.none,.none] }
 rw[z3] at z4
 have zz:(Wt s.heap x t b).get? (s.heap.objs.size+4)=some _:=last z4 rfl
 refine⟨⟨_,zz,rfl⟩,q _ zz (up _ (up _ (last z2 rfl))) (up _ (last z3 rfl)) ⟨_,up _ (up _ (up _ (up _ (last rfl rfl)))),rfl,rfl⟩ ⟨_,up _ (up _ (up _ (last z1 rfl))),rfl,rfl⟩ ?_ fun c o e=>up _ (up _ (up _ (up _ (up _ e))))⟩
 show(Heap.push _ _).objs.size=_
 rw[J8,z4]
end
structure zC (z TI TO i1 i2 l S:Addr)(x:Str)(t:Tok)(ys:Array Value)(i:Nat)(h:Heap):Prop where
 ti:IsPair h TI (.ref i1) (.ref i2)
 to:∃a b,IsPair h TO a b
 it1:mv h i1 x t i
 it2:h.IsListIter i2 l i
 a2:h.IsList l ys
 zp:IsZip h z TI TO .none/\i=0∨0<i/\∃a f oa,fY h z TI TO a f/\h.get? a=some oa/\S<a
abbrev C9 (S:Addr)(x:Str)(ys:Array Value)(j:Nat)(v:Value)(h:Heap):Prop:=qi fun a c tk y=>v = .ref a/\S<a/\x.cps[j]? = some c/\ys[j]? = some y/\IsPair h a (.str ⟨#[c]⟩ tk) y
theorem Ep {prog:Program}{w:World}{A:Around}{z TI TO i1 i2 l S:Addr}{x:Str}{t:Tok}{ys:Array Value}(hh:A.handled=none)(hn:0<x.cps.size)(hy:x.cps.size<=ys.size)(D:ZipApart z TI TO i1 i2 l l)(b1:z<S)(b2:TI<S)(b3:TO<S)(b4:i1<S)(b5:i2<S)(b6:l<S):
  vT prog w A z S "zip" (mn z TO i1 i2) x.cps.size (C9 S x ys) iW (zC z TI TO i1 i2 l S x t ys) where
 sfp:=fun q=>by
  rcases q with q|q|q|q<;>(rw[q] at b1 b3 b4 b5;first|exact absurd b1 (J7 _)|exact absurd b3 (J7 _)|exact absurd b4 (J7 _)|exact absurd b5 (J7 _))
 ne:=Jm b1
 ty:=fun i h st=>by
  rcases st.zp with ⟨q,_⟩|⟨_,a,f,oa,q,_⟩
  ·exact⟨_,q,rfl⟩
  ·exact⟨_,q,rfl⟩
 self:=fun s Q E st q=>by
  rcases st.zp with ⟨r,_⟩|⟨r,_⟩
  ·exact wpAny_pyIter_zip r q
  ·exact absurd r (J7 _)
 item:=fun i s Q E hi st hS q=>by
  obtain⟨ti,to,it1,it2,a2,zp⟩:=st
  have hx:x.cps[i]? = some (x.cps[i]'hi):=J9 hi
  have hy:ys[i]? = some (ys[i]'(by omega)):=J9 (by omega)
  have old:∀j u,C9 S x ys j u s.heap->iW u (.ref s.heap.objs.size):=fun j u hz_=>ai.el hz_ _ fun a c tk y e _ _ _ p=>⟨a,_,e,rfl,Jf p⟩
  rcases zp with ⟨r,_⟩|⟨hi0,c,f,oc,r,oc',hc⟩
  ·refine Ad D r ti to it1 it2 a2 hx hy fun h' tk tk' r1 r2 r3 r4 r5 r7 =>?_
   have n2:∀{b:Addr},b≠z->b≠TO->b≠i1->b≠i2->¬mn z TO i1 i2 b:=fun c1 c2 c3 c4 q=>q.elim c1 fun q=>q.elim c2 fun q=>q.elim c3 c4
   refine q _ h' tk' r7 ⟨r7 _ _ (n2 D.TIz D.TITO D.TIi1 D.TIi2) ti,r2,r3,r4,a2.at fun o e=>r7 _ _ (n2 D.l2z D.l2TO D.l2i1 D.l2i2) e,.inr ⟨Nat.succ_pos _,_,_,_,r1,r5,hS⟩⟩ ⟨_,_,_,_,rfl,hS,hx,hy,r5⟩ old
  ·have ne:∀{b:Addr},b<S->c≠b:=fun hb=>Uc (Nat.lt_trans hb hc)
   refine Cr D r oc' ti it1 it2 a2 hx hy fun h' tk tk' r1 r2 r3 r4 r5 =>?_
   have kp:Keeps s.heap h' (mn z TO i1 i2):=fun b o nb e=>r5 b o (fun z=>z.elim (fun z=>nb (.inl z)) fun z=>nb (.inr (.inr z))) e
   obtain⟨ta,tb,to⟩:=to
   refine q _ h' tk' kp ⟨r5 _ _ (fun z=>z.elim D.TIz fun z=>z.elim D.TIi1 D.TIi2) ti,⟨_,_,r5 _ _ (fun z=>z.elim D.TOz fun z=>z.elim D.TOi1 D.TOi2) to⟩,r2,r3,a2.at fun o e=>r5 _ _ (fun z=>z.elim D.l2z fun z=>z.elim D.l2i1 D.l2i2) e,
    .inr ⟨Nat.succ_pos _,_,_,_,r1,r5 _ _ (fun z=>z.elim (ne b1) fun z=>z.elim (ne b4) (ne b5)) oc',hc⟩⟩ ⟨_,_,_,_,rfl,hS,hx,hy,r4⟩ old
 stop:=fun s Q E st hS q=>by
  obtain⟨ti,to,it1,it2,a2,zp⟩:=st
  rcases zp with ⟨_,r⟩|⟨hi0,c,f,oc,r,oc',hc⟩
  ·rw[r] at hn;exact absurd hn (J7 _)
  ·exact Et hh D r oc' ti it1 (Yj (Je _)) fun h' k=>q h' s.toks fun b o nb e=>k b o (fun z=>z.elim (fun z=>nb (.inl z)) fun z=>nb (.inr (.inr z))) e
 keepS:=fun i h h' st k=>by
  obtain⟨ti,⟨a,b,to⟩,it1,it2,a2,zp⟩:=st
  refine⟨k _ _ (Jm b2) ti,⟨a,b,k _ _ (Jm b3) to⟩,cI it1 fun o e=>k _ o (Jm b4) e,it2.at fun o e=>k _ o (Jm b5) e,a2.at fun o e=>k _ o (Jm b6) e,?_⟩
  rcases zp with ⟨r,r0⟩|⟨hi0,c,f,oc,r,oc',hc⟩
  ·exact .inl ⟨k _ _ (Jm b1) r,r0⟩
  ·exact .inr ⟨hi0,c,f,oc,k _ _ (Jm b1) r,k _ _ (Uc hc) oc',hc⟩
 keepP:=fun j v h h' hz_ k=>ai.el hz_ _ fun a c tk y e ha h1 h2 p=>by
  have ne:∀{b:Addr},b<S->a≠b:=fun hb=>Uc (Nat.lt_trans hb ha)
  exact⟨a,c,tk,y,e,ha,h1,h2,k _ _ (fun z=>z.elim (fun z=>z.elim (ne b1) fun z=>z.elim (ne b3) fun z=>z.elim (ne b4) (ne b5)) (Uc ha)) p⟩
 nolen:=by rw[typeLookup_type,builtinLookup_eq_fast];kernel_rfl
 nohint:=by rw[typeLookup_type,builtinLookup_eq_fast];kernel_rfl
 nl:=by decide
 nt:=by decide
section
variable {X:Cx}
def Ww (K:Ja)(ta:TA):TE:=fun σ H Q=>ta σ H fun vs H1=>m7 fun(x:Str) (l2:Addr) (ys:List V)=>vs=[.str x,.ref l2]/\bb K H1 l2 ys/\x.cps.all (· < 128)=true/\0<x.cps.size/\x.cps.size<=ys.length /\
 ∀H' p (as:List Addr),ao H1 H'->H1 p=none->H' p=some (.lst (as.map V.ref))->as.length=x.cps.size ->
  (∀(j:Nat) a c y,as[j]? = some a->x.cps[j]? = some c->ys[j]? = some y->H1 a=none/\H' a=some (.tup [.str ⟨#[c]⟩,y]))->Q (.ref p) H'
theorem u7 {a b:Expr}{ta:TA}{p p2 pos j6:Pos}(hc:X.calm=true)(JK:Gl X "list")(JW:X.mg "list" = none)(Pb:Gl X "zip")(Oz:X.mg "zip" = none)(ha:PA X [a,b] ta)
  (Ls:bootBuiltins "list" = some (.type "list"):=by first|rfl|decide) (Ox:bootBuiltins "zip" = some (.type "zip"):=by first|rfl|decide)
  (Eu:starEach [.Call (.Name "zip" p2) [a,b] [] j6] X.env=[(false,eval (.Call (.Name "zip" p2) [a,b] [] j6) X.env)]:=by rfl)
  (hs:starEach [a,b] X.env=[(false,eval a X.env),(false,eval b X.env)]:=by rfl) (yS:starEach [b] X.env=[(false,eval b X.env)]:=by rfl) :
  PE X (.Call (.Name "list" p) [.Call (.Name "zip" p2) [a,b] [] j6] [] pos) (Ww X.K ta):=by
 intro pins s σ H Q I h
 refine wpAny_Call_Name_kw (dY I JK JW Ls ?_)
 refine PyProof.Rows.callWith_type1 ?_ Eu rfl
 rw[Eu]
 show wpAny _ _ (spliced ((false,eval (.Call (.Name "zip" p2) [a,b] [] j6) X.env)::[])) _ _ _
 refine Calls.spliced_cons ?_
 refine Call_ (dY I Pb Oz Ox (PyProof.Rows.callWith_type1 (bg (ha s σ H _ I h) fun us s1 hz_=>ai.el hz_ _ fun vs H1 I1 r1 q1 =>?_) (by rw[hs,yS]) (by rw[yS];rfl)))
 obtain⟨x,l2,ys,e,q2,xa,xp,xy,q⟩:=q1
 subst e
 obtain⟨u,w',rfl,ru,r2⟩:=vals2 r1
 cases r2
 obtain⟨t,rfl⟩:∃t,u = .str x t:=ru
 refine ai.el (I1.list q2) _ ?_
 rintro its2 rv2 p2 hz2
 have e2:=rv2.length
 have a2:l2<s1.heap.objs.size:=by obtain⟨_,e,_⟩:=p2.isList;exact Jf e
 refine Dl xa p2.isList fun h' hz oP wa hi1 hi2 hsz hk =>?_
 refine Calls.spliced_nil ?_
 have qG:s1.heap.objs.size<=h'.objs.size:=by rw[hsz];exact Ur _ _
 have jr:∀n,n<5->s1.heap.objs.size+n<h'.objs.size:=fun n hn=>by rw[hsz];exact Nat.add_lt_add_left hn _
 have zs:∀o,zC (s1.heap.objs.size+4) (s1.heap.objs.size+2) (s1.heap.objs.size+3) s1.heap.objs.size (s1.heap.objs.size+1) l2 h'.objs.size x t its2.toArray 0 (h'.push o):=fun o=>
  ⟨Jb _ oP,⟨_,_,Jb _ wa⟩,cI hi1 fun o e=>Jb _ e,hi2.at fun o e=>Jb _ e,(p2.isList.at fun o e=>hk _ o e).push _,.inl ⟨Jb _ hz,rfl⟩⟩
 refine qu (s:={ s1 with heap:=h' }) (Ep (I.ok.hd hc) xp (by simp;omega) (zipApart_new a2 a2) (jr 4 (by decide)) (jr 2 (by decide)) (jr 3 (by decide)) (jr 0 (by decide)) (jr 1 (by decide)) (Jq a2 qG)) (by omega) zs fun h2 tk acc c KC G =>?_
 obtain⟨hS2,hsz2,hpw,iR⟩:=G
 obtain⟨as,gf⟩:=mF (l:=acc.toList) fun v hv=>by
  obtain⟨j,hj⟩:=Ut.mp hv
  obtain⟨a,_,_,_,e,_⟩:=iR j v (by simpa using hj)
  exact⟨a,e⟩
 have iT:∀(j:Nat) a,as[j]? = some a->m7 fun c tk y=>h'.objs.size<a/\x.cps[j]? = some c/\its2.toArray[j]? = some y/\IsPair h2 a (.str ⟨#[c]⟩ tk) y:=fun j a h=>by
  obtain⟨a',c,tk,y,e,g⟩:=iR j (.ref a) (by
   have:acc.toList[j]? = some (.ref a):=by rw[gf,Ji,h];rfl
   simpa using this)
  cases e
  exact⟨c,tk,y,g⟩
 have above:∀a∈as,h'.objs.size<a:=fun a ha=>by
  obtain⟨j,hj⟩:=Ut.mp ha
  obtain⟨_,_,_,g,_⟩:=iT j a hj
  exact g
 have old:∀b o,s1.heap.get? b=some o->h2.get? b=some o:=fun b o e=>by
  have hb:=Jf e
  have gt:∀n,b≠s1.heap.objs.size+n:=fun n=>Jm (Jq hb (Ur _ _))
  exact KC b o (fun z=>z.elim (gt 4) fun z=>z.elim (gt 3) fun z=>z.elim (gt 0) (gt 1)) (hk b o e)
 have I2:Inv X pins σ H1 { s1 with heap:=h2,toks:=tk }:=I1.kept old
 have tU:∀a∈as,s1.heap.objs.size<=a:=fun a ha=>U8 (J1 qG (above a ha))
 have nd:as.Nodup:=by
  rw[gf,List.pairwise_map] at hpw
  exact hpw.imp fun hz_=>ai.el hz_ _ fun a b e1 e2 h=>by cases e1;cases e2;exact Jm h
 have eB:∀a,s1.heap.objs.size<=a->dE X pins H1 a/\X.s₀.heap.objs.size<=a:=fun a ha=>⟨I1.eB ha (I1.bC.fresh ha),Jh I1.sz ha⟩
 have Hl:as.length=x.cps.size:=by
  have z:acc.toList.length=as.length:=by rw[gf,Jc]
  simp at z hsz2
  omega
 let ps:List (List V):=(x.cps.toList.zip ys).map fun q=>[V.str ⟨#[q.1]⟩,q.2]
 have VB:∀(j:Nat) c y,x.cps[j]? = some c->ys[j]? = some y->ps[j]? = some [V.str ⟨#[c]⟩,y]:=fun j c y h1 h2=>by
  show((x.cps.toList.zip ys).map fun q=>[V.str ⟨#[q.1]⟩,q.2])[j]? = _
  rw[Ji,(U5 (z:=(c,y))).mpr ⟨by simpa using h1,h2⟩]
  rfl
 obtain⟨H',I',sm,same,all⟩:=I2.kr as ps nd (by show _=((x.cps.toList.zip ys).map _).length;rw[Jc,U4];have:=Uo (xs:=x.cps);omega) (fun a ha=>eB a (tU a ha)) (fun j a pp h1 h2'=>by
  refine ai.el (iT j a h1) _ ?_
  rintro c tk y _ g1 g2 g3
  refine ai.el (ke rv2 g2) _ ?_
  rintro vy gy ry
  rw[VB j c vy g1 gy] at h2';cases h2'
  exact⟨by show 2<=sizeLine;decide,[.str ⟨#[c]⟩ tk,y],.cons ⟨_,rfl⟩ (.cons ry .nil),⟨_,g3,rfl,rfl,_,rfl⟩⟩)
 have EV:h'.objs.size∉as:=fun hm=>J7 _ (above _ hm)
 have mM:H1 h'.objs.size=none:=I1.bC.fresh qG
 obtain⟨fS,sS⟩:=eB h'.objs.size qG
 have NI:dE X pins H' h'.objs.size:=⟨by rw[same _ EV];exact mM,fS.2⟩
 have I3:=I'.adopt (T:=h'.objs.size) (o := .lst (as.map V.ref)) NI sS ⟨by rw[Jc];omega,acc.toList,c,by
  rw[gf]
  clear hS2 gf all same I' sm tU nd Hl EV above iT
  induction as with
  | nil=>exact .nil
  | cons a r ih=>exact .cons rfl ih,by simpa using hS2⟩
 refine⟨.ref h'.objs.size,_,I3,rfl,q _ _ as (fun b o e =>?_) mM ay Hl fun j a c y h1 h2' h3'=>⟨(eB a (tU a (J2 h1))).1.1,?_⟩⟩
 ·rw[ak (aw e mM)];exact sm b o e
 ·rw[ak (fun(z:a=h'.objs.size)=>EV (by rw[<-z];exact J2 h1))]
  exact all j a _ h1 (VB j c y h2' h3')
end
end L2
namespace Z
open PySem L2
theorem sizeOk {n:Nat}(h:n<=10000000):n<=sizeLine:=Jh h (by decide)
theorem qv (l:List Str)(h:decide l.Nodup=true:=by decide +kernel):l.Nodup:=of_decide_eq_true h
theorem EK (i:Nat):(2:Int)^i+2^i=2^(i+1):=by rw[Int.pow_succ];omega
end Z
namespace L2
set_option genSizeOf false
set_option genInjectivity false
set_option genSizeOf false
set_option genInjectivity false
end L2
namespace Z
open PySem L2
structure vL (H:Hp)(b c:Addr)(t:Int)(ns:List Int):Prop where
 d:H b=some (.dK [(.inr "cells",.ref c),(.inr "turn",.int t)])
 l:H c=some (.lst (ns.map V.int))
 ne:0<ns.length
 le:ns.length<=64
noncomputable def fK (H:Hp)(b c:Addr):Hp:=fun a=>if a=b∨a=c then none else H a
theorem bW {H:Hp}{b c a:Addr}(h1:a≠b)(h2:a≠c):fK H b c a=H a:=if_neg (fun z=>z.elim h1 h2)
theorem jE {H:Hp}{b c a:Addr}{o:HO}(h:fK H b c a=some o):H a=some o/\a≠b/\a≠c:=by
 unfold fK at h
 split at h
 ·cases h
 ·rename_i n
  exact⟨h,fun z=>n (.inl z),fun z=>n (.inr z)⟩
theorem gL {H:Hp}{b c:Addr}:ao (fK H b c) H:=fun a o h=>(jE h).1
theorem vL.bc {H:Hp}{b c:Addr}{t:Int}{ns:List Int}(x:vL H b c t ns):b≠c:=IH x.d x.l (by intro z;cases z)
theorem vL.EZ {H:Hp}{b c:Addr}{t:Int}{ns:List Int}(x:vL H b c t ns):dz H b (.str "turn") (some (.int t)):=dz.k (k:=Sum.inr "turn") x.d
theorem vL.lI {H:Hp}{b c:Addr}{t:Int}{ns:List Int}(x:vL H b c t ns):dz H b (.str "cells") (some (.ref c)):=dz.k (k:=Sum.inr "cells") x.d
theorem vL.ER {H:Hp}{b c:Addr}{t:Int}{ns:List Int}(x:vL H b c t ns)(t':Int):pY H b (.str "turn") (.int t') (upd H b (.dK [(.inr "cells",.ref c),(.inr "turn",.int t')])):=
 pY.k (k:=Sum.inr "turn") x.d (by show 2<sizeLine;decide)
theorem vL.turned {H:Hp}{b c:Addr}{t:Int}{ns:List Int}(x:vL H b c t ns)(t':Int):vL (upd H b (.dK [(.inr "cells",.ref c),(.inr "turn",.int t')])) b c t' ns:=
 ⟨ay,by rw[ak (Ne.symm x.bc)];exact x.l,x.ne,x.le⟩
theorem A2 {H:Hp}{b c:Addr}{o:HO}:fK (upd H b o) b c=fK H b c:=by
 funext a;unfold fK;split
 ·rfl
 ·rename_i n;exact ak (fun z=>n (.inl z))
theorem Ar {H:Hp}{b c:Addr}{o:HO}:fK (upd H c o) b c=fK H b c:=by
 funext a;unfold fK;split
 ·rfl
 ·rename_i n;exact ak (fun z=>n (.inr z))
def xP:Sp:=fun vs H Q _=>wb fun(b c:Addr) (t:Int) (ns:List Int) (many:Int)=>vs=[.ref b,.int many]/\vL H b c t ns/\0<=t/\t<100000000/\0<many/\many<1073741824 /\
 ∀(r:Int) (H':Hp) (Fw:List Int),0<=r->r<many->vL H' b c (t+1) Fw->ao (fK H b c) (fK H' b c)->Q (.int r) H'
theorem at_of {ns:List Int}{p:Int}(h0:0<=p)(h1:p<ns.length):∃v,we (ns.map V.int) p=some (.int v)/\ns[p.toNat]? = some v:=by
 have hk:p.toNat<ns.length:=by omega
 have ek:p=((p.toNat:Nat):Int):=by omega
 have q:we (ns.map V.int) ((p.toNat:Nat):Int)=some (.int ns[p.toNat]):=j9 (by rw[Ji,Jd hk]<;>rfl)
 rw[<-ek] at q
 exact⟨_,q,Jd hk⟩
theorem JU {a j m:Int}(h0:0<m)(h:m<2^64):ye (a%m) j:=by
 have h1:=Int.emod_nonneg a (b:=m) (by omega)
 have h2:=Int.emod_lt_of_pos a h0
 exact .inl ⟨by omega,by omega⟩
theorem K0 {n:Nat}{p:Int}(h0:0<=p)(h1:p<n):AN n p=some p.toNat:=by unfold AN;rw[if_pos h0,if_pos h1]
theorem nI {H H':Hp}{b c:Addr}(h:∀a o,a≠b->a≠c->H a=some o->H' a=some o):ao (fK H b c) (fK H' b c):=fun a o e=>by
 refine ai.el (jE e) _ ?_
 rintro e h1 h2
 rw[bW h1 h2]
 exact h a o h1 h2 e
end Z
namespace L2
open PySem
def Gm (t:TG):Prop:=∀x σ H (Q Q':St->Hp->Prop),(∀a b,Q a b->Q' a b)->t x σ H Q->t x σ H Q'
def SW (t:Bs):Prop:=∀x σ H (Q Q':St->Hp->Prop),(∀a b,Q a b->Q' a b)->t x σ H Q->t x σ H Q'
theorem cn {i:Nat}:Gm (md i):=fun _ _ _ _ _ h q=>h _ _ q
theorem et:SW KH:=fun _ _ _ _ _ h q=>⟨q.1,h _ _ q.2⟩
theorem iz {t:TG}{u:Bs}(a:Gm t)(b:SW u):SW (D7 t u):=fun _ _ _ _ _ h ⟨v,r,e,q⟩=>⟨v,r,e,a _ _ _ _ _ (fun _ _ z=>b _ _ _ _ _ h z) q⟩
theorem aN.get {K:Ja}{H:Hp}:∀{ds:List PyData} {vs:List V} {i:Nat} {d:PyData},aN K H ds vs->ds[i]? = some d->∃v,vs[i]? = some v/\Den K H d v
 | [],_,_,_,_,e=>by simp at e
 | d::ds,vs,i,d',h,e=>by
  unfold aN at h
  obtain⟨v,r,rfl,h1,h2⟩:=h
  cases i with
  | zero=>cases e;exact⟨v,rfl,h1⟩
  | succ i=>exact aN.get (i:=i) h2 e
theorem aN.len {K:Ja}{H:Hp}:∀{ds:List PyData} {vs:List V},aN K H ds vs->vs.length=ds.length
 | [],_,h=>by unfold aN at h;subst h;rfl
 | d::ds,vs,h=>by
  unfold aN at h
  obtain⟨v,r,rfl,h1,h2⟩:=h
  rw[Jn,Jn,aN.len h2]
theorem Den.pair {K:Ja}{H:Hp}{a b:Str}{v:V}(h:Den K H (.tuple [.str a,.str b]) v):∃p,v = .ref p/\br K H p [.str a,.str b]:=by
 unfold Den at h
 obtain⟨p,vs,e,h1,h2⟩:=h
 unfold aN at h2
 obtain⟨v1,r1,rfl,d1,h2⟩:=h2
 unfold aN at h2
 obtain⟨v2,r2,rfl,d2,h2⟩:=h2
 unfold aN at h2
 subst h2
 unfold Den at d1 d2
 subst d1 d2
 exact⟨p,e,h1⟩
end L2
namespace Z
open PySem L2
noncomputable def aI (bk:List (Str×Str)):PyData := .list (bk.map fun q =>.tuple [.str q.1,.str q.2])
theorem bD {H:Hp}{p:Addr}(h:H p=none)(o:HO):ao H (upd H p o):=fun b u q=>by rw[ak (aw q h)];exact q
end Z
namespace L2
open PySem
theorem lL {J:It}{g:TG}{tb:TS}{D:Ends}{σ:St}{H:Hp}(N:Nat)(Pv:Nat->St->Hp->Prop)(h0:Pv 0 σ H)
  (go:∀i σ H,i<N->Pv i σ H->J.go i H/\∀x H',J.yld i H x H'->g x σ H' fun σ2 H2=>tb { D with nx:=Pv (i+1),ct:=Pv (i+1),bk:=D.nx } σ2 H2)
  (stop:∀ σ H,Pv N σ H->J.stop N H/\D.nx σ H) :
  ∃W:Nat->Nat->St->Hp->Prop,(∃m,W 0 m σ H)/\∀i m σ H,W i m σ H ->
   (J.stop i H/\D.nx σ H)∨(J.go i H/\∃N:St->Hp->Prop,(∀ σ' H',N σ' H'->∃m',m'<m/\W (i+1) m' σ' H')/\∀x H',J.yld i H x H'->g x σ H' fun σ2 H2=>tb { D with nx:=N,ct:=N,bk:=D.nx } σ2 H2):=by
 refine⟨fun i m σ H=>m=N-i/\i<=N/\Pv i σ H,⟨N,by simp,Um _,h0⟩,?_⟩
 intro i m σ H
 refine ai.go ?_
 rintro rfl hi p
 by_cases hW:i<N
 ·obtain⟨g1,g2⟩:=go i σ H hW p
  exact .inr ⟨g1,Pv (i+1),fun σ' H' p'=>⟨N-(i+1),by omega,rfl,hW,p'⟩,g2⟩
 ·have e:i=N:=by omega
  subst e
  exact .inl (stop σ H p)
theorem iq {t u:TS}{D:Ends}{σ:St}{H:Hp}(Ex:St->Hp->Prop)(h:∀Nx:St->Hp->Prop,(∀ σ H,Ex σ H->Nx σ H)->t { D with nx:=Nx } σ H)(fin:∀ σ H,Ex σ H->u D σ H):GZ t u D σ H:=h (u D) fin
theorem rX {c:TT}{tb:TS}{D:Ends}{σ:St}{H:Hp}(Pv:Nat->St->Hp->Prop)(h0:∃m,Pv m σ H)
  (hs:∀m σ H,Pv m σ H->c σ H fun b H1=>if b=true then ∃N:St->Hp->Prop,(∀ σ' H',N σ' H'->∃m',m'<m/\Pv m' σ' H')/\tb { D with nx:=N,ct:=N,bk:=D.nx } σ H1 else D.nx σ H1):mY c tb D σ H:=⟨Pv,h0,hs⟩
theorem fA {te:TE}{g:TG}{u:TS}{D:Ends}{σ:St}{H:Hp}(Ex:V->Hp->Prop)(h:∀Qn:VK,(∀v H,Ex v H->Qn v H)->te σ H Qn)(fin:∀v H,Ex v H->g v σ H (u D)):GZ (Dh te g) u D σ H:=h _ fin
theorem gn {i:Nat}{v:V}{σ:St}{H:Hp}{Q:St->Hp->Prop}(h:Q (σ.set i (some v)) H):md i v σ H Q:=h
end L2
namespace Z
open PySem L2
def Bx (H:Hp)(b c:Addr)(t:Int):Prop:=∃ns,vL H b c t ns
structure Step (b c:Addr)(H H':Hp)(t t' N:Int):Prop where
 le:t<=t'
 ub:t'<=t+N
 bx:Bx H' b c t'
 sm:ao (fK H b c) (fK H' b c)
theorem Step.refl {b c:Addr}{H:Hp}{t:Int}(h:Bx H b c t):Step b c H H t t 0:=⟨Y1 _,by omega,h,ao.refl _⟩
theorem Step.trans {b c:Addr}{H H' H2:Hp}{t t' t2 N M:Int}(x:Step b c H H' t t' N)(y:Step b c H' H2 t' t2 M):Step b c H H2 t t2 (N+M):=
 ⟨by have:=x.le;have:=y.le;omega,by have:=x.ub;have:=y.ub;omega,y.bx,x.sm.trans y.sm⟩
theorem Step.more {b c:Addr}{H H':Hp}{t t' N M:Int}(x:Step b c H H' t t' N)(h:N<=M):Step b c H H' t t' M:=⟨x.le,by have:=x.ub;omega,x.bx,x.sm⟩
theorem Bx.aO {H:Hp}{b c p:Addr}{t:Int}(x:Bx H b c t)(h:H p=none):p≠b/\p≠c:=by
 obtain⟨ns,x⟩:=x
 exact⟨fun z=>(by rw[z,x.d] at h;cases h),fun z=>(by rw[z,x.l] at h;cases h)⟩
theorem Bx.upd {H:Hp}{b c p:Addr}{t:Int}{o:HO}(x:Bx H b c t)(h1:p≠b)(h2:p≠c):Bx (upd H p o) b c t:=by
 obtain⟨ns,x⟩:=x
 exact⟨ns,by rw[ak (Ne.symm h1)];exact x.d,by rw[ak (Ne.symm h2)];exact x.l,x.ne,x.le⟩
theorem Step.new {b c p:Addr}{H H':Hp}{t t' N:Int}(x:Step b c H H' t t' N)(h:H' p=none)(o:HO):Step b c H (upd H' p o) t t' N:=
 ⟨x.le,x.ub,x.bx.upd (x.bx.aO h).1 (x.bx.aO h).2,x.sm.trans (nI fun a u _ _ e=>by rw[ak (aw e h)];exact e)⟩
theorem Step.XZ {b c p:Addr}{H H':Hp}{t t' N:Int}(x:Step b c H H' t t' N)(h:H p=none)(h1:p≠b)(h2:p≠c)(o:HO):Step b c H (upd H' p o) t t' N:=
 ⟨x.le,x.ub,x.bx.upd h1 h2,fun a u e=>by
  have q:=x.sm a u e
  refine ai.el (jE q) _ ?_
  rintro q n1 n2
  rw[bW n1 n2,ak (fun z =>?_)]
  ·exact q
  ·rw[z] at e
   rw[(jE e).1] at h;cases h⟩
theorem Step.old {b c a:Addr}{H H':Hp}{t t' N:Int}{o:HO}(x:Step b c H H' t t' N)(h:H a=some o)(h1:a≠b)(h2:a≠c):H' a=some o:=
 (jE (x.sm a o (by rw[bW h1 h2];exact h))).1
theorem Step.fresh {b c a:Addr}{H H':Hp}{t t' N:Int}(x:Step b c H H' t t' N)(hb:Bx H b c t)(h:H' a=none):H a=none:=by
 obtain⟨h1,h2⟩:=x.bx.aO h
 cases e:H a with
 | none=>rfl
 | some o=>rw[x.old e h1 h2] at h;cases h
theorem ao.fK {H H':Hp}{b c:Addr}(s:ao H H'):ao (fK H b c) (fK H' b c):=nI fun a o _ _ e=>s a o e
theorem Bx.same {H H':Hp}{b c:Addr}{t:Int}(x:Bx H b c t)(s:ao H H'):Bx H' b c t:=by
 obtain⟨ns,x⟩:=x
 exact⟨ns,s _ _ x.d,s _ _ x.l,x.ne,x.le⟩
theorem Step.same {b c:Addr}{H H':Hp}{t:Int}(x:Bx H b c t)(s:ao H H'):Step b c H H' t t 0:=⟨Y1 _,by omega,x.same s,ao.fK s⟩
def ua:Sp:=fun vs H Q _=>qi fun(b c:Addr) (t many:Int)=>vs=[.ref b,.int many]/\Bx H b c t/\0<=t/\t<100000000/\0<many/\many<1073741824 /\
 ∀(r:Int) (H':Hp),0<=r->r<many->Step b c H H' t (t+1) 1->Q (.int r) H'
theorem Fs {vs:List V}{H:Hp}{Q:VK}{E:XK}(h:ua vs H Q E):xP vs H Q E:=by
 obtain⟨b,c,t,many,e,⟨ns,bx⟩,h1,h2,h3,h4,q⟩:=h
 exact⟨b,c,t,ns,many,e,bx,h1,h2,h3,h4,fun r H' Fw r0 r1 bx' sm=>q r H' r0 r1 ⟨by omega,by omega,⟨Fw,bx'⟩,sm⟩⟩
theorem IY (vs:List V)(j:Nat):ie vs none (some (j:Int))=vs.take j:=by
 unfold ie
 rw[HT.uJ,HT.fM,List.drop_zero,Nat.sub_zero]
 rcases Nat.le_total j vs.length with h|h
 ·rw[Nat.min_eq_left h]
 ·rw[Nat.min_eq_right h,Yz (Je _),Yz h]
theorem vI (vs:List V)(j:Nat):ie vs (some (j:Int)) none=vs.drop j:=by
 unfold ie
 rw[HT.uJ,HT.fM]
 rcases Nat.le_total j vs.length with h|h
 ·rw[Nat.min_eq_left h,Yz (by rw[Y8];exact Je _)]
 ·rw[Nat.min_eq_right h,List.drop_of_length_le (Je _),List.drop_of_length_le h];simp
theorem Fn.imp {P:Program}{w:World}{K:Ja}{mg:Str->Option Value}{base:Heap}{k:Nat}{x:Str}{ps:List Str}{sp IB:Sp}(F:Fn P w K mg base k x ps sp)(h:∀vs H Q E,IB vs H Q E->sp vs H Q E):Fn P w K mg base k x ps IB:=by
 refine ai.el (F.ex) _ ?_
 rintro f fd a b c d
 exact⟨f,fd,a.imp h,b,c,d⟩
theorem Step.dI {b c p:Addr}{H H' H2:Hp}{t t' N:Int}{o:HO}(x:Step b c H H' t t' N)(n:gX H' p o H2):Step b c H H2 t t' N:=by rw[n.eq];exact x.new n.nn _
theorem Step.Df {b c p:Addr}{H H' H2:Hp}{t t' N:Int}{o:HO}(x:Step b c H H' t t' N)(n:AH H' p o H2)(h:H p=none)(h1:p≠b)(h2:p≠c):Step b c H H2 t t' N:=by rw[n.eq];exact x.XZ h h1 h2 _
def uG (x:Str):Prop:=∀c∈x.cps.toList,c=48∨c=49
theorem mV (g:Str):∀(parts:List Str) (acc:Array Nat),(parts.foldl (fun acc p=>acc++g.cps++p.cps) acc).toList=acc.toList++parts.flatMap (fun p=>g.cps.toList++p.cps.toList)
 | [],acc=>by simp
 | p::r,acc=>by rw[List.foldl_cons,mV g r];simp
theorem dr (xs:List Str):(Txt.join "" xs).cps.toList=xs.flatMap (fun p=>p.cps.toList):=by
 cases xs with
 | nil=>rfl
 | cons x r=>
  show((r.foldl (fun acc p=>acc++(Str.ofString "").cps++p.cps) x.cps)).toList=_
  rw[mV]
  have e:(Str.ofString "").cps.toList=[]:=rfl
  simp[e]
theorem aK (x y:Str):(x++y).cps.toList=x.cps.toList++y.cps.toList:=by
 show(x.cps++y.cps).toList=_
 simp
theorem str_len (x:Str):x.length=x.cps.toList.length:=by simp[Str.length]
def Sh (n:Nat)(d:PyData):Prop:=d.canLay0=true/\d.depth<=n
theorem Sh.all {n:Nat}:∀{ds:List PyData},(∀d∈ds,Sh n d)->PyData.canLayAll0 ds=true/\PyData.depthAll ds<=n
 | [],_=>⟨by simp[PyData.canLayAll0],by simp[PyData.depthAll]⟩
 | d::ds,h=>by
  obtain⟨h1,h2⟩:=h d Jr
  obtain⟨h3,h4⟩:=Sh.all fun e he=>h e (Jo _ he)
  exact⟨by simp[PyData.canLayAll0,h1,h3],by simp only[PyData.depthAll];omega⟩
theorem Sh.list {n:Nat}{ds:List PyData}(h:∀d∈ds,Sh n d):Sh (n+1) (.list ds):=by
 obtain⟨h1,h2⟩:=Sh.all h
 exact⟨by simpa [PyData.canLay0] using h1,by simp only[PyData.depth];omega⟩
theorem Sh.tuple {n:Nat}{ds:List PyData}(h:∀d∈ds,Sh n d):Sh (n+1) (.tuple ds):=by
 obtain⟨h1,h2⟩:=Sh.all h
 exact⟨by simpa [PyData.canLay0] using h1,by simp only[PyData.depth];omega⟩
theorem Sh.shaped {n:Nat}{d:PyData}(h:Sh n d)(hn:n<=64):SeqAt.shaped d=true:=by
 unfold SeqAt.shaped
 rw[h.1,decide_eq_true (Jh h.2 hn)]
 rfl
theorem Sh.str {n:Nat}{x:Str}(h:PyData.canLay0 (.str x)=true):Sh n (.str x):=⟨h,by simp[PyData.depth]⟩
theorem Sh.int {n:Nat}{i:Int}:Sh n (.int i):=⟨by simp[PyData.canLay0],by simp[PyData.depth]⟩
theorem dM {x:Str}(h:∀ch∈x.cps.toList,ch<128):PyData.canLay0 (.str x)=true:=by
 simp only[PyData.canLay0,PyData.strOk]
 rw[<-Array.all_toList,Y2]
 intro ch hc
 have:=h ch hc
 exact decide_eq_true (by omega)
theorem Den.strs {K:Ja}{H:Hp}:∀(xs:List Str),aN K H (xs.map PyData.str) (xs.map V.str)
 | []=>by unfold aN;rfl
 | x::xs=>by
  rw[J0]
  unfold aN
  exact⟨_,_,rfl,by unfold Den;rfl,Den.strs xs⟩
theorem Den.list {K:Ja}{H:Hp}{l:Addr}{ds:List PyData}{vs:List V}(h:bb K H l vs)(hd:aN K H ds vs):Den K H (.list ds) (.ref l):=by
 unfold Den
 exact⟨l,vs,rfl,h,hd⟩
theorem pH {n:Nat}:∀{ds:List PyData} {d:PyData},PyData.depthAll ds<=n->d∈ds->d.depth<=n
 | [],_,_,h=>nomatch h
 | e::ds,d,hn,h=>by
  simp only[PyData.depthAll] at hn
  rcases Jv.mp h with rfl|h
  ·omega
  ·exact pH (by omega) h
theorem gq {n:Nat}:∀{ds:List PyData} {d:PyData},PyData.weightAll ds<=n->d∈ds->d.weight<=n
 | [],_,_,h=>nomatch h
 | e::ds,d,hn,h=>by
  simp only[PyData.weightAll] at hn
  rcases Jv.mp h with rfl|h
  ·omega
  ·exact gq (by omega) h
theorem gD:∀(ds:List PyData),ds.length<=PyData.weightAll ds
 | []=>by simp
 | e::ds=>by
  simp only[PyData.weightAll,Jn]
  have:=gD ds
  omega
theorem all_true (n:Nat):(Ju n true).all id=true:=by
 induction n with
 | zero=>rfl
 | succ n ih=>rw[Yk,List.all_cons,ih];rfl
theorem aN.of_get {K:Ja}{H:Hp}:∀{ds:List PyData} {vs:List V},ds.length=vs.length->(∀(j:Nat) d v,ds[j]? = some d->vs[j]? = some v->Den K H d v)->aN K H ds vs
 | [],[],_,_=>by unfold aN;rfl
 | [],_::_,h,_=>by simp at h
 | _::_,[],h,_=>by simp at h
 | d::ds,v::vs,h,g=>by
  unfold aN
  exact⟨v,vs,rfl,g 0 d v rfl rfl,aN.of_get (by simpa using h) fun j d' v' h1 h2=>g (j+1) d' v' h1 h2⟩
noncomputable def jq (a b:Str):V:=if Txt.startswith a b=true then .str (Txt.slice a (some (b.length:Nat)) none) else if Txt.startswith b a=true then .str (Txt.slice b (some (a.length:Nat)) none) else .non
def tj:Sp:=fun vs H Q _=>∃a b:Str,vs=[.str a,.str b]/\a.length<=1000000/\b.length<=1000000/\Q (jq a b) H
section
variable {P:Program}{w:World}{K:Ja}{mg:Str->Option Value}{base:Heap}{f:Addr}{fd:FuncData}
theorem FT:aA ["one", "other"] ["one", "other"] (aj (top lB)):=⟨rfl,rfl,rfl,by decide +kernel,rfl,by decide +kernel,by decide +kernel⟩
theorem HJ (F:bO K "rest_of" "rest_of" (top lB) f fd)(T:Nm mg):bh P w K mg base eP 1 f fd ["one", "other"] tj:=by
 refine F.ok FT (fun vs H Q E h =>?_) (fun cG A outer s H vs Q E hr h =>?_)
 ·obtain⟨a,b,rfl,_⟩:=h
  rfl
 unfold tj at h
 refine ai.el h _ ?_
 clear h
 rintro a b rfl ha hb q
 refine⟨_,(af (bA (cf (uy K PySem.F.plainAttrs_str PySem.F.slot_str_startswith PySem.F.type_str_startswith jk (pv 0) (aa (pv 1) ae))) (ag (av (da (TM K) (pv 0) (cF (ax (ia K) rfl T.n_len (by rfl) (aa (pv 1) ae))) gI))) aM)
  (af (bA (cf (uy K PySem.F.plainAttrs_str PySem.F.slot_str_startswith PySem.F.type_str_startswith jk (pv 1) (aa (pv 0) ae))) (ag (av (da (TM K) (pv 1) (cF (ax (ia K) rfl T.n_len (by rfl) (aa (pv 0) ae))) gI))) aM)
  (ag (av fz)))),?_⟩
 unfold jq at q
 refine⟨_,rfl,rfl,_,rfl,a,b,rfl,rfl,_,rfl,?_⟩
 refine eU (fun c =>?_) (fun c =>?_)
 ·rw[if_pos c] at q
  exact⟨_,rfl,_,rfl,_,_,rfl,⟨sizeOk (Jh hb (by decide)),rfl⟩,_,rfl,.inr ⟨a,rfl,sizeOk (Jh ha (by decide)),q⟩⟩
 ·rw[if_neg c] at q
  refine⟨_,rfl,rfl,_,rfl,b,a,rfl,rfl,_,rfl,?_⟩
  refine eU (fun c =>?_) (fun c =>?_)
  ·rw[if_pos c] at q
   exact⟨_,rfl,_,rfl,_,_,rfl,⟨sizeOk (Jh ha (by decide)),rfl⟩,_,rfl,.inr ⟨b,rfl,sizeOk (Jh hb (by decide)),q⟩⟩
  ·rw[if_neg c] at q
   exact q
end
def QP (bk:List (Str×Str))(j:Nat):Prop:=∀(i' j':Nat) a b,i'<j'->j'<j->bk[i']? = some a->bk[j']? = some b->jq a.2 b.2 = .non
def sH (K:Ja):Sp:=fun vs H Q _=>∃(v:V) (bk:List (Str×Str)),vs=[v]/\Den K H (aI bk) v/\bk.length<=1000/\(∀q∈bk,q.2.length<=200000) /\
 (QP bk bk.length->∀H',ao H H'->Q .non H') /\
 ∀(i j:Nat) a b,bk[i]? = some a->bk[j]? = some b->i<j->QP bk j->(∀(i':Nat) a',i'<i->bk[i']? = some a'->jq a'.2 b.2 = .non)->jq a.2 b.2 ≠ .non ->
  ∀p H',ao H H'->H p=none->H' p=some (.tup [.str a.1,.str b.1])->Q (.ref p) H'
section
variable {P:Program}{w:World}{K:Ja}{mg:Str->Option Value}{base:Heap}{f:Addr}{fd:FuncData}
theorem qO:aA ["book", "at", "other", "code", "one", "code_ahead"] ["book"] (aj (top rP)):=⟨rfl,rfl,rfl,by decide +kernel,rfl,by decide +kernel,by decide +kernel⟩
theorem ES (vs:List V)(j:Nat)(h:j<=vs.length):ie vs none (some (j:Int))=vs.take j:=by
 unfold ie
 have e:HT.cP vs.length vs.length (some (j:Int))=j:=by
  unfold HT.cP
  dsimp only
  rw[if_neg (show ¬((j:Int)<0) by omega)]
  omega
 rw[e]
 show((vs.drop 0).take (j-0))=_
 simp
theorem ML (F:bO K "clash" "clash" (top rP) f fd)(T:Nm mg)(Lx:Fn P w K mg base 1 "rest_of" ["one", "other"] tj):bh P w K mg base eP 2 f fd ["book"] (sH K):=by
 refine F.ok qO (fun vs H Q E h =>?_) (fun cG A outer s H vs Q E hr h =>?_)
 ·obtain⟨v,bk,rfl,_⟩:=h
  rfl
 obtain⟨v,bk,rfl,hD,hlen,hle,q0,q1⟩:=h
 refine⟨_,(af (d7 PassesOwn.never rfl (yE rfl T.n_enumerate (aa (pv 0) ae)) (tupK K 2 rfl (aR (aD (i:=1) qO.nd rfl (Or.inl rfl)) (aR (tupK K 2 rfl (aR (aD (i:=2) qO.nd rfl (Or.inl rfl)) (aR (aD (i:=3) qO.nd rfl (Or.inl rfl)) cu))) cu))) (ag (d7 PassesOwn.never rfl (G7 K (da (TM K) (pv 0) gI (cF (pv 1)))) (tupK K 2 rfl (aR (aD (i:=4) qO.nd rfl (Or.inl rfl)) (aR (aD (i:=5) qO.nd rfl (Or.inl rfl)) cu))) (ag (bA (aQ si (aB Lx hr rfl (aa (pv 5) (aa (pv 3) ae))) fz (aV _)) (ag (av (D8 (aa (pv 4) (aa (pv 2) ae))))) aM)))))
  (ag (av fz))),?_⟩
 unfold aI at hD
 unfold Den at hD
 obtain⟨l,vs,rfl,hS,hDs⟩:=hD
 have WJ:vs.length=bk.length:=by rw[hDs.len,Jc]
 have item:∀i (hi:i<bk.length),∃a,vs[i]? = some (.ref a)/\br K H a [.str bk[i].1,.str bk[i].2]:=fun i hi=>by
  obtain⟨x,hx,dx⟩:=hDs.get (i:=i) (d := .tuple [.str bk[i].1,.str bk[i].2]) (by rw[Ji,Jd hi];rfl)
  obtain⟨a,rfl,hT⟩:=dx.pair
  exact⟨a,hx,hT⟩
 have BG:∀i (hi:i<bk.length),bk[i].2.length<=1000000:=fun i hi=>Jh (hle _ (Ub hi)) (by decide)
 refine⟨_,rfl,l,rfl,⟨_,hS⟩,?_⟩
 refine lL (N:=bk.length) (fun j σ H'=>ao H H'/\QP bk j/\∃x1 x2 x3 x4 x5,σ=[some (.ref l),x1,x2,x3,x4,x5]) ⟨ao.refl _,fun i' j' a b _ h=>absurd h (Nat.not_lt_zero _),_,_,_,_,_,rfl⟩ ?_ ?_
 ·rintro j σ H' hj ⟨sm,nc,x1,x2,x3,x4,x5,rfl⟩
  obtain⟨a,hx,hT⟩:=item j hj
  refine⟨⟨_,_,sm.seq hS,hx⟩,?_⟩
  rintro x H2 ⟨t1,rfl,ht1,hy⟩
  have e:=hy _ _ (sm.seq hS) hx
  subst e
  have gB:=sm.trans (bD ht1 (.tup [.int j,.ref a]))
  refine⟨t1,_,rfl,br.of ay,rfl,_,_,rfl,_,_,rfl,a,_,rfl,gB.bU hT,rfl,_,_,rfl,_,_,rfl,rfl,rfl,?_⟩
  refine⟨_,rfl,_,rfl,_,rfl,.inl ⟨l,_,rfl,gB.seq hS,fun p hp =>?_⟩⟩
  rw[ES vs j (by omega)]
  have Ir:=gB.trans (bD hp (.lst (vs.take j)))
  refine⟨p,rfl,⟨_,bb.of ay⟩,?_⟩
  refine El (xs:=vs.take j) (fun i σ H4=>ao (upd (upd H' t1 (.tup [.int j,.ref a])) p (.lst (vs.take j))) H4/\(∀(i':Nat) a',i'<i->bk[i']? = some a'->jq a'.2 bk[j].2 = .non)/\∃y4 y5,σ=[some (.ref l),some (.int j),some (.str bk[j].1),some (.str bk[j].2),y4,y5]) ⟨ao.refl _,fun i' a' h=>absurd h (Nat.not_lt_zero _),_,_,rfl⟩ ?_ ?_ ?_
  ·rintro i σ H4 hi ⟨qS,_,_⟩
   exact qS.seq (bb.of ay)
  ·rintro i x σ H4 hix ⟨qS,ng,y4,y5,rfl⟩
   have vY:i<j:=by
    have:=(Jt.mp hix).1
    rw[Uq] at this;omega
   have PZ:i<bk.length:=by omega
   obtain⟨a',mE,hT'⟩:=item i PZ
   rw[List.getElem?_take_of_lt vY,mE] at hix
   cases hix
   have UZ:=Ir.trans qS
   refine⟨a',_,rfl,UZ.bU hT',rfl,_,_,rfl,_,_,rfl,rfl,?_⟩
   refine⟨_,rfl,_,rfl,bk[i].2,bk[j].2,rfl,BG i PZ,BG j hj,.inl ⟨rfl,_,rfl,?_⟩⟩
   refine eU (fun c =>?_) (fun c =>?_)
   ·have hr:jq bk[i].2 bk[j].2 ≠ .non:=by simpa using c
    refine⟨_,rfl,_,rfl,by show 2<=sizeLine;decide,fun t2 ht2 =>?_⟩
    exact q1 i j bk[i] bk[j] (Jd PZ) (Jd hj) vY nc ng hr t2 _ (UZ.trans (bD ht2 _)) (UZ.free ht2) ay
   ·have hr:jq bk[i].2 bk[j].2 = .non:=by simpa using c
    refine⟨qS,fun i' b' v9 Cg =>?_,_,_,rfl⟩
    by_cases z:i'<i
    ·exact ng i' b' z Cg
    ·have:i'=i:=by omega
     subst this
     rw[Jd PZ] at Cg;cases Cg
     exact hr
  ·rintro σ H4 ⟨qS,ng,y4,y5,rfl⟩
   refine⟨Ir.trans qS,fun i' j' a1 b1 h1 h2 e1 e2 =>?_,_,_,_,_,_,rfl⟩
   by_cases z:j'<j
   ·exact nc i' j' a1 b1 h1 z e1 e2
   ·have:j'=j:=by omega
    subst this
    rw[Jd hj] at e2;cases e2
    exact ng i' a1 (by rw[Uq];omega) e1
 ·rintro σ H' ⟨sm,nc,x1,x2,x3,x4,x5,rfl⟩
  exact⟨⟨_,sm.seq hS,by rw[WJ];exact Je _⟩,q0 nc H' sm⟩
end
noncomputable abbrev sg (x:Str):List Nat:=x.cps.toList
def RF (a b:Str):Prop := ¬(sg a <+: sg b)/\¬(sg b <+: sg a)
theorem RF.symm {a b:Str}(h:RF a b):RF b a:=⟨h.2,h.1⟩
theorem rL (x y:Str):sg (x++y)=sg x++sg y:=aK x y
theorem RF.ext {a b u v:Str}(h:RF a b):RF (a++u) (b++v):=by
 refine⟨fun z =>?_,fun z =>?_⟩
 ·rw[rL,rL] at z
  rcases List.prefix_or_prefix_of_prefix ((List.prefix_append _ _).trans z) (List.prefix_append (sg b) (sg v)) with q|q
  ·exact h.1 q
  ·exact h.2 q
 ·rw[rL,rL] at z
  rcases List.prefix_or_prefix_of_prefix ((List.prefix_append _ _).trans z) (List.prefix_append (sg a) (sg u)) with q|q
  ·exact h.2 q
  ·exact h.1 q
abbrev eV (cs:List Str):Prop:=cs.Pairwise RF
theorem eV.perm {cs ds:List Str}(h:eV cs)(p:cs.Perm ds):eV ds:=(p.pairwise_iff fun h=>RF.symm h).mp h
noncomputable abbrev s0:Str := "0"
noncomputable abbrev s1:Str := "1"
theorem RF.two (x:Str):RF (x++s0) (x++s1):=by
 have e0:sg (x++s0)=sg x++[48]:=aK x s0
 have e1:sg (x++s1)=sg x++[49]:=aK x s1
 refine⟨fun z =>?_,fun z =>?_⟩
 ·rw[e0,e1] at z
  have:=z.eq_of_length (by simp)
  simp at this
 ·rw[e0,e1] at z
  have:=z.eq_of_length (by simp)
  simp at this
theorem RF.one {x y u:Str}(h:RF y x):RF y (x++u):=by
 have z:=h.ext (u:=Str.empty) (v:=u)
 have e:y++Str.empty=y:=by
  show(⟨y.cps ++ #[]⟩:Str)=y
  simp
 rw[e] at z
 exact z
theorem eV.split {A B:List Str}{x:Str}(h:eV (A++x::B)):eV (A++[x++s0,x++s1]++B):=by
 rw[List.append_assoc]
 refine ai.el (Ys.mp h) _ ?_
 rintro hA hxB hAB
 obtain⟨hx,hB⟩:=List.pairwise_cons.mp hxB
 refine Ys.mpr ⟨hA,?_,fun a ha y hy =>?_⟩
 ·refine Ys.mpr ⟨List.pairwise_cons.mpr ⟨fun y hy=>by rw[Jz.mp hy];exact RF.two x,List.pairwise_singleton _ _⟩,hB,fun y hy z hz =>?_⟩
  have q:=(hx z hz).symm
  simp at hy
  rcases hy with rfl|rfl
  ·exact q.one.symm
  ·exact q.one.symm
 ·rcases Ug.mp hy with hy|hy
  ·have q:=hAB a ha x Jr
   simp at hy
   rcases hy with rfl|rfl
   ·exact q.one
   ·exact q.one
  ·exact hAB a ha y (Jo _ hy)
theorem gK (x y:Str):Txt.startswith x y=true↔sg y <+: sg x:=by
 have hl:y.length=(sg y).length:=str_len y
 have hx:x.length=(sg x).length:=str_len x
 have e:(x.cps.extract 0 (0+y.length)==y.cps)=true↔(sg x).take y.length=sg y:=by
  rw[beq_iff_eq,<-Array.toList_inj]
  simp[Array.toList_extract]
 show(decide (0+y.length<=x.length)&&(x.cps.extract 0 (0+y.length)==y.cps))=true↔_
 rw[Jx,decide_eq_true_iff,e]
 constructor
 ·rintro⟨_,h⟩
  rw[<-h]
  exact List.take_prefix _ _
 ·intro h
  exact⟨by have:=h.length_le;omega,by rw[hl];exact(List.prefix_iff_eq_take.mp h).symm⟩
theorem qm {a b:Str}:jq a b = .non↔RF a b:=by
 unfold jq RF
 by_cases h1:Txt.startswith a b=true
 ·rw[if_pos h1]
  exact⟨(fun z=>nomatch z),fun z=>absurd ((gK a b).mp h1) z.2⟩
 ·rw[if_neg h1]
  by_cases h2:Txt.startswith b a=true
  ·rw[if_pos h2]
   exact⟨(fun z=>nomatch z),fun z=>absurd ((gK b a).mp h2) z.1⟩
  ·rw[if_neg h2]
   exact⟨fun _=>⟨fun z=>h2 ((gK b a).mpr z),fun z=>h1 ((gK a b).mpr z)⟩,fun _=>rfl⟩
theorem yJ (bk:List (Str×Str)):QP bk bk.length↔eV (bk.map (·.2)):=by
 constructor
 ·intro h
  refine Ux.mpr fun i j hi hj vY =>?_
  rw[Jc] at hi hj
  rw[List.getElem_map,List.getElem_map]
  exact qm.mp (h i j _ _ vY hj (Jd hi) (Jd hj))
 ·intro h i j a b vY hj ha hb
  obtain⟨v9,rfl⟩:=Jt.mp ha
  obtain⟨Lj,rfl⟩:=Jt.mp hb
  have z:=Ux.mp h i j (by rw[Jc];exact v9) (by rw[Jc];exact Lj) vY
  rw[List.getElem_map,List.getElem_map] at z
  exact qm.mpr z
def xX (K:Ja):Sp:=fun vs H Q _=>∃(v:V) (bk:List (Str×Str)),vs=[v]/\Den K H (aI bk) v/\bk.length<=1000/\(∀q∈bk,q.2.length<=200000) /\
 (eV (bk.map (·.2))->∀H',ao H H'->Q (.bl true) H')/\(¬eV (bk.map (·.2))->∀H',ao H H'->Q (.bl false) H')
section
variable {P:Program}{w:World}{K:Ja}{mg:Str->Option Value}{base:Heap}{f:Addr}{fd:FuncData}
theorem FX:aA ["book"] ["book"] (aj (top xA)):=⟨rfl,rfl,rfl,by decide +kernel,rfl,by decide +kernel,by decide +kernel⟩
theorem F0 (F:bO K "free" "free" (top xA) f fd)(T:Nm mg)(GX:Fn P w K mg base 2 "clash" ["book"] (sH K)):bh P w K mg base eP 3 f fd ["book"] (xX K):=by
 refine F.ok FX (fun vs H Q E h =>?_) (fun cG A outer s H vs Q E hr h =>?_)
 ·obtain⟨v,bk,rfl,_⟩:=h
  rfl
 obtain⟨v,bk,rfl,hD,hl,hc,q1,q2⟩:=h
 refine⟨_,(ag (av (cQ JR (aB (GX.mono (by decide)) hr rfl (aa (pv 0) ae)) fz (aV _)))),?_⟩
 refine⟨_,rfl,v,bk,rfl,hD,hl,hc,fun nc H' sm =>.inl ⟨rfl,q1 ((yJ bk).mp nc) H' sm⟩,fun i j a b ha hb vY _ _ E8 p H' sm hp hp' =>.inl ⟨rfl,q2 (fun fr =>?_) H' sm⟩⟩
 exact E8 ((yJ bk).mpr fr i j a b vY (Jt.mp hb).1 ha hb)
end
end Z
set_option maxHeartbeats 30000000
namespace Z
open PySem L2
noncomputable abbrev nH:Str := "01"
noncomputable abbrev su:Str := "abcdefghijklmnopqrstuvwxyz"
noncomputable def iX (x y:Str):Bool:=decide (V.str (Txt.stripChars x y)=V.str (Str.ofString ""))
noncomputable def cS:PyData->Bool
 | .str x=>decide ((1:Int)<=(x.length:Nat))&&(decide (((x.length:Nat):Int)<=8)&&iX x su)
 | _=>false
noncomputable def bV:PyData->Bool
 | .str x => !decide (V.str x=V.str (Str.ofString ""))&&iX x nH
 | _=>false
noncomputable def bq:PyData->Bool
 | .tuple [a,b]=>cS a&&bV b
 | _=>false
noncomputable def fg:PyData->Str
 | .tuple (.str x::_)=>x
 | _=>Str.empty
noncomputable def cT:PyData->Bool
 | .list ds => !ds.isEmpty&&(ds.all bq&&decide ((bN (fun i=>(ds.map fg).getD i Str.empty) ds.length).length=ds.length))
 | _=>false
def oB (K:Ja):Sp:=fun vs H Q _=>∃(v:V) (d:PyData),vs=[v]/\Den K H d v/\d.weight<=300000/\SeqAt.shaped d=true/\(∀ds,d = .list ds->ds.length<=4000)/\∀H',ao H H'->Q (.bl (cT d)) H'
def rm:Sp:=fun vs H Q _=>∃x y:Str,vs=[.str x,.str y]/\x.length<=1000000/\Q (.bl (iX x y)) H
def kR (K:Ja)(f:PyData->Bool):Sp:=fun vs H Q _=>∃(v:V) (d:PyData),vs=[v]/\Den K H d v/\d.weight<=1000000/\∀H',ao H H'->Q (.bl (f d)) H'
section
variable {P:Program}{w:World}{K:Ja}{mg:Str->Option Value}{base:Heap}{f:Addr}{fd:FuncData}{t1 t2 t3:Tok}
theorem xW:aA ["text", "signs"] ["text", "signs"] (aj (top lT)):=⟨rfl,rfl,rfl,by decide +kernel,rfl,by decide +kernel,by decide +kernel⟩
theorem Go (F:bO K "made_of" "made_of" (top lT) f fd)(T:Nm mg):bh P w K mg base eP 1 f fd ["text", "signs"] rm:=by
 refine F.ok xW (fun vs H Q E h =>?_) (fun cG A outer s H vs Q E hr h =>?_)
 ·obtain⟨x,y,rfl,_⟩:=h
  rfl
 obtain⟨x,y,rfl,hx,q⟩:=h
 have eT:=hr.units
 refine⟨_,(ag (av (cQ (qj K eT) (uy K PySem.F.plainAttrs_str PySem.F.slot_str_strip PySem.F.type_str_strip BI (pv 0) (aa (pv 1) ae)) aq (aV _)))),?_⟩
 exact⟨_,rfl,rfl,_,rfl,x,y,rfl,rfl,sizeOk (Jh hx (by decide)),.inl ⟨rfl,q⟩⟩
theorem wH:aA ["thing"] ["thing"] (aj (top lE)):=⟨rfl,rfl,rfl,by decide +kernel,rfl,by decide +kernel,by decide +kernel⟩
theorem Ba (F:bO K "is_name" "is_name" (top lE) f fd)(T:Nm mg)(fm:mg "LONGEST_NAME" = some (.int 8 t1))(eR:mg "SMALL_LETTERS" = some (.str su t2))(lD:Fn P w K mg base 1 "made_of" ["text", "signs"] rm):bh P w K mg base eP 2 f fd ["thing"] (kR K cS):=by
 refine F.ok wH (fun vs H Q E h =>?_) (fun cG A outer s H vs Q E hr h =>?_)
 ·obtain⟨v,d,rfl,_⟩:=h
  rfl
 obtain⟨v,d,rfl,hd,hw,q⟩:=h
 have eT:=hr.units
 have hq:=q H (ao.refl _)
 refine⟨_,(ag (av (eO (ax (ip K) rfl T.n_isinstance (by rfl) (aa (pv 0) (aa (bH rfl T.n_str (by rfl) (v := .ty "str") rfl) ae))) (eO (uP my my ah (ax (ia K) rfl T.n_len (by rfl) (aa (pv 0) ae)) (kB rfl fm)) (jR (aB (lD.mono (by decide)) hr rfl (aa (pv 0) (aa (y3 rfl eR) ae)))))))),?_⟩
 refine⟨_,rfl,.inl ⟨_, "str",d,_,rfl,hd,(vk K d).2.2.1,_,rfl,?_⟩⟩
 cases d with
 | str x=>
  have e:=hd
  unfold Den at e
  subst e
  have P9:x.length<=1000000:=hw
  refine bK ⟨_,rfl,_,_,rfl,⟨sizeOk (Jh P9 (by decide)),rfl⟩,_,_,rfl,rfl,_,rfl,?_⟩
  have hq:Q (.bl (decide ((1:Int)<=(x.length:Nat))&&(decide (((x.length:Nat):Int)<=8)&&iX x su))) H:=hq
  refine eU (fun c1 =>?_) (fun c1 =>?_)
  ·rw[c1,U2] at hq
   refine⟨_,_,rfl,rfl,_,rfl,eU (fun c2 =>?_) (fun c2 =>?_)⟩
   ·rw[c2,U2] at hq
    exact⟨_,rfl,x,_,rfl,P9,hq⟩
   ·rw[Uw.mpr c2,Yh] at hq
    exact hq
  ·rw[Uw.mpr c1,Yh] at hq
   exact⟨_,rfl,bF hq⟩
 | _=>exact bF hq
theorem xF:aA ["thing"] ["thing"] (aj (top lN)):=⟨rfl,rfl,rfl,by decide +kernel,rfl,by decide +kernel,by decide +kernel⟩
theorem Bg (F:bO K "is_code" "is_code" (top lN) f fd)(T:Nm mg)(rh:mg "SIGNS" = some (.str nH t3))(lD:Fn P w K mg base 1 "made_of" ["text", "signs"] rm):bh P w K mg base eP 2 f fd ["thing"] (kR K bV):=by
 refine F.ok xF (fun vs H Q E h =>?_) (fun cG A outer s H vs Q E hr h =>?_)
 ·obtain⟨v,d,rfl,_⟩:=h
  rfl
 obtain⟨v,d,rfl,hd,hw,q⟩:=h
 have eT:=hr.units
 have hq:=q H (ao.refl _)
 refine⟨_,(ag (av (eO (ax (ip K) rfl T.n_isinstance (by rfl) (aa (pv 0) (aa (bH rfl T.n_str (by rfl) (v := .ty "str") rfl) ae))) (eO (cQ (JV K eT) (pv 0) aq (aV _)) (jR (aB (lD.mono (by decide)) hr rfl (aa (pv 0) (aa (y3 rfl rh) ae)))))))),?_⟩
 refine⟨_,rfl,.inl ⟨_, "str",d,_,rfl,hd,(vk K d).2.2.1,_,rfl,?_⟩⟩
 cases d with
 | str x=>
  have e:=hd
  unfold Den at e
  subst e
  have P9:x.length<=1000000:=hw
  have hq:Q (.bl (!decide (V.str x=V.str (Str.ofString ""))&&iX x nH)) H:=hq
  refine bK ⟨_,rfl,.inl ⟨rfl,_,rfl,eU (fun c1 =>?_) (fun c1 =>?_)⟩⟩
  ·rw[c1,U2] at hq
   exact⟨_,rfl,x,_,rfl,P9,hq⟩
  ·rw[Uw.mpr c1,Yh] at hq
   exact hq
 | _=>exact bF hq
theorem uR:aA ["thing"] ["thing"] (aj (top jA)):=⟨rfl,rfl,rfl,by decide +kernel,rfl,by decide +kernel,by decide +kernel⟩
theorem yo (F:bO K "is_entry" "is_entry" (top jA) f fd)(T:Nm mg)(BP:Fn P w K mg base 2 "is_name" ["thing"] (kR K cS))(Aj:Fn P w K mg base 2 "is_code" ["thing"] (kR K bV)):bh P w K mg base eP 3 f fd ["thing"] (kR K bq):=by
 refine F.ok uR (fun vs H Q E h =>?_) (fun cG A outer s H vs Q E hr h =>?_)
 ·obtain⟨v,d,rfl,_⟩:=h
  rfl
 obtain⟨v,d,rfl,hd,hw,q⟩:=h
 have eT:=hr.units
 refine⟨_,(ag (av (eO (ax (ip K) rfl T.n_isinstance (by rfl) (aa (pv 0) (aa (bH rfl T.n_tuple (by rfl) (v := .ty "tuple") rfl) ae))) (eO (cQ (qj K eT) (ax (ia K) rfl T.n_len (by rfl) (aa (pv 0) ae)) ah (aV _)) (eO (aB (BP.mono (by decide)) hr rfl (aa (bp (fI K) (pv 0) ah (fun _ _=>rfl)) ae)) (jR (aB (Aj.mono (by decide)) hr rfl (aa (bp (fI K) (pv 0) ah (fun _ _=>rfl)) ae)))))))),?_⟩
 refine⟨_,rfl,.inl ⟨_, "tuple",d,_,rfl,hd,(vk K d).2.2.2.2,_,rfl,?_⟩⟩
 cases d with
 | tuple ds=>
  have e:=hd
  unfold Den at e
  obtain⟨a,us,rfl,hT,hds⟩:=e
  have hl:=hds.len
  refine bK ⟨_,rfl,_,_,rfl,.inr ⟨_,hT,rfl⟩,.inl ⟨rfl,_,rfl,eU (fun c1 =>?_) (fun c1 =>?_)⟩⟩
  ·have c1:V.int ((us.length:Nat):Int)=V.int 2:=of_decide_eq_true c1
   have c1:us.length=2:=by injection c1 with c1;omega
   rw[hl] at c1
   match ds,c1,hds,hw,q with
   | [d1,d2],_,hds,hw,q=>
    unfold aN at hds
    obtain⟨v1,r1,rfl,h1,hds⟩:=hds
    unfold aN at hds
    obtain⟨v2,r2,rfl,h2,hds⟩:=hds
    unfold aN at hds
    subst hds
    have hw:PyData.weight d1+1+(PyData.weight d2+1+0)<=1000000:=by simpa only [PyData.weight,PyData.weightAll] using hw
    have q:∀H',ao H H'->Q (.bl (cS d1&&bV d2)) H':=q
    refine⟨_,rfl,.inr (.inl ⟨a,_,0,_,rfl,rfl,hT,rfl,v1,d1,rfl,h1,by omega,fun H1 sm1=>⟨_,rfl,eU (fun c2 =>?_) (fun c2 =>?_)⟩⟩)⟩
    ·refine⟨_,rfl,.inr (.inl ⟨a,_,1,_,rfl,rfl,sm1.bU hT,rfl,v2,d2,rfl,h2.same sm1,by omega,fun H2 gB =>?_⟩)⟩
     have z:=q H2 (sm1.trans gB)
     rw[c2,U2] at z
     exact z
    ·have z:=q H1 sm1
     rw[Uw.mpr c2,Yh] at z
     exact z
  ·have c1:¬(V.int ((us.length:Nat):Int)=V.int 2):=of_decide_eq_false (Uw.mpr c1)
   have z:=q H (ao.refl _)
   have e:bq (.tuple ds)=false:=by
    match ds,hl with
    | [],_=>rfl
    | [_],_=>rfl
    | [_,_],hl=>exact absurd (by rw[hl];rfl) c1
    | _::_::_::_,_=>rfl
   rw[e] at z
   exact z
 | _=>exact bF (q H (ao.refl _))
theorem Cu {d:PyData}(h:cS d=true):∃x,d = .str x:=by
 cases d<;>first|exact⟨_,rfl⟩|(simp[cS] at h)
theorem CO {d:PyData}(h:bV d=true):∃x,d = .str x:=by
 cases d<;>first|exact⟨_,rfl⟩|(simp[bV] at h)
theorem uO {d:PyData}(h:bq d=true):∃x y:Str,d = .tuple [.str x,.str y]:=by
 cases d with
 | tuple ds=>
  match ds,h with
  | [],h=>simp[bq] at h
  | [_],h=>simp[bq] at h
  | [a,b],h=>
   have h:(cS a&&bV b)=true:=h
   rw[Jx] at h
   obtain⟨x,rfl⟩:=Cu h.1
   obtain⟨y,rfl⟩:=CO h.2
   exact⟨x,y,rfl⟩
  | _::_::_::_,h=>simp[bq] at h
 | _=>simp[bq] at h
theorem yF (ds:List PyData):PyData.eqv (.list ds) (.list [])=ds.isEmpty:=by
 cases ds<;>simp[PyData.eqv,PyData.eqvAll]
theorem wj:aA ["thing"] ["thing"] (aj (top lx)):=⟨rfl,rfl,rfl,by decide +kernel,rfl,by decide +kernel,by decide +kernel⟩
theorem Ah (F:bO K "is_book" "is_book" (top lx) f fd)(T:Nm mg)(yj:Fn P w K mg base 3 "is_entry" ["thing"] (kR K bq)):bh P w K mg base eP 4 f fd ["thing"] (oB K):=by
 refine F.ok wj (fun vs H Q E h =>?_) (fun cG A outer s H vs Q E hr h =>?_)
 ·obtain⟨v,d,rfl,_⟩:=h
  rfl
 obtain⟨v,d,rfl,hd,hw,Mt,Bu,q⟩:=h
 have eT:=hr.units
 refine⟨_,(af (bA (PW.pt (lW (dN (cf (ax (ip K) rfl T.n_isinstance (by rfl) (aa (pv 0) (aa (bH rfl T.n_list (by rfl) (v := .ty "list") rfl) ae))))) (jV (aQ (qj K eT) (pv 0) (fE ae) (aV _))))) (ag (av hR)) aM)
  (af (bA (dN (cf (ax (JI K rfl) rfl T.n_all (by rfl) (aa (dG rfl (cq (Nc:=["part"]) (Fc:=[]) (js:=[])) (G7 K (pv 0)) (bG (i:=0) (n:=1) (by decide)) (fun _ _ _ _ _=>(aD (i:=0) (qv ["part"]) rfl (Or.inl rfl))) (fun _ _ _ _ _=>dg) (fun _ _ _ _ _=>(aB (yj.mono (by decide)) hr rfl (aa (pv 0) ae)))) ae)))) (ag (av hR)) aM)
  (ag (av (cQ (qj K eT) (ax (A1 (Hw P w)) rfl T.n_len (by rfl) (aa (Er (Hw P w) rfl (cq (Nc:=["name", "code"]) (Fc:=[]) (js:=[])) (G7 K (pv 0)) (nQ (df (bG (i:=0) (n:=2) (by decide)) (df (bG (i:=1) (n:=2) (by decide)) ky cn et) cn (iz cn et))) (fun _ _ _ _ _=>(tupK K 2 rfl (aR (aD (i:=0) (qv ["name", "code"]) rfl (Or.inl rfl)) (aR (aD (i:=1) (qv ["name", "code"]) rfl (Or.inl rfl)) cu)))) (fun _ _ _ _ _=>dg) (fun _ _ _ _ _=>(pv 0))) ae)) (ax (ia K) rfl T.n_len (by rfl) (aa (pv 0) ae)) (aV _)))))),?_⟩
 refine⟨_,rfl,.inl ⟨_, "list",d,_,rfl,hd,(vk K d).2.2.2.1,_,rfl,?_⟩⟩
 cases d with
 | list ds=>
  have e:=hd
  unfold Den at e
  obtain⟨a,us,rfl,hS,hds⟩:=e
  have hl:=hds.len
  have Bu:=Bu ds rfl
  have Xz:PyData.weightAll ds<=300000:=by simpa only [PyData.weight] using hw
  refine bF ⟨_,rfl,by show 0<=sizeLine;decide,fun pe H1 n1 =>?_⟩
  have UO:Den K H1 (.list []) (.ref pe):=Den.list (bb.of n1.at) (Den.strs [])
  refine .inr ⟨_,_,hd.same n1.same,UO,Mt,by decide +kernel,_,rfl,?_⟩
  rw[yF]
  cases hem:ds.isEmpty with
  | true=>
   have z:=q H1 n1.same
   have e:cT (.list ds)=false:=by simp[cT,hem]
   rw[e] at z
   exact bK z
  | false=>
   refine bF ?_
   have mM:=n1.same.seq hS
   have Ng:=hds.same n1.same
   have lw:=gD ds
   refine⟨_,rfl,a,rfl,⟨_,mM⟩,?_⟩
   refine dh (N:=ds.length) (fun i ys H'=>ao H1 H'/\ys=((ds.take i).map bq).map V.bl) ⟨ao.refl _,rfl⟩ ?_ ?_
   ·rintro i ys H2 Nx hi ⟨gB,rfl⟩ nx
    obtain⟨x,hx,dx⟩:=Ng.get (i:=i) (Jd hi)
    refine⟨⟨_,_,gB.seq mM,hx⟩,J1 (show _<=300000 by rw[Jc,Jc,Uq];omega) (by decide),?_⟩
    rintro x' H3 ⟨rfl,hy⟩
    have e:=hy _ (gB.seq mM)
    rw[hx] at e;cases e
    refine gn ⟨_,rfl,_,_,rfl,dx.same gB,Jh (gq (n:=300000) Xz (Ub hi)) (by decide),fun H4 qS=>nx _ _ ⟨gB.trans qS,?_⟩⟩
    rw[U3 hi,Jy,Jy]
    rfl
   ·rintro ys H2 ⟨gB,rfl⟩
    refine⟨⟨_,gB.seq mM,by rw[hl];exact Je _⟩,fun p hp =>?_⟩
    rw[Y3]
    refine⟨p,_,rfl,bb.of ay,_,rfl,?_⟩
    have Hz:ao H1 (upd H2 p (.lst ((ds.map bq).map V.bl))):=gB.trans (bD hp _)
    have M8:(ds.map bq).any id=ds.any bq:=by rw[List.any_map];rfl
    have M8:(ds.map bq).all id=ds.all bq:=by rw[List.all_map];rfl
    rw[M8]
    cases iR:ds.all bq with
    | false=>
     have z:=q _ (n1.same.trans Hz)
     have e:cT (.list ds)=false:=by simp[cT,hem,iR]
     rw[e] at z
     exact bK z
    | true=>
     refine bF ?_
     generalize upd H2 p (.lst ((ds.map bq).map V.bl))=H3 at Hz
     have ent:∀i (hi:i<ds.length),∃x y:Str,ds[i] = .tuple [.str x,.str y]:=fun i hi=>uO (Y2.mp iR _ (Ub hi))
     refine⟨_,rfl,a,rfl,⟨_,Hz.seq mM⟩,fun D hD =>?_⟩
     refine CS (N:=ds.length) (fun i H'=>H' D=some (iB (Hw P w) D (bN (fun i=>(ds.map fg).getD i Str.empty) i))/\∀a u,a≠D->H3 a=some u->H' a=some u) ⟨ay,fun a u h e=>by rw[ak h];exact e⟩ ?_ ?_
     ·rintro i H4 Nx hi ⟨IP,kp⟩ nx
      obtain⟨x,hx,dx⟩:=(Ng.same Hz).get (i:=i) (Jd hi)
      obtain⟨nm,cd,ed⟩:=ent i hi
      rw[ed] at dx
      obtain⟨pa,rfl,hT⟩:=dx.pair
      have qS:ao H3 H4:=fun a u e=>kp a u (aw e hD) e
      refine⟨⟨_,_,qS.seq (Hz.seq mM),hx⟩,?_⟩
      rintro x' H5 ⟨rfl,hy⟩
      have e:=hy _ (qS.seq (Hz.seq mM))
      rw[hx] at e;cases e
      have Zw:(ds.map fg).getD i Str.empty=nm:=by
       rw[show(ds.map fg).getD i Str.empty=((ds.map fg)[i]?).getD Str.empty from rfl,Ji,Jd hi,ed]
       rfl
      have ml:=jO (fun i=>(ds.map fg).getD i Str.empty) i
      refine⟨pa,_,rfl,qS.bU hT,rfl,_,_,rfl,_,_,rfl,rfl,_,rfl,_,nm,IP,rfl,by omega,nx _ ⟨?_,fun a u h e =>?_⟩⟩
      ·rw[ay]
       show _=some (iB (Hw P w) D (oneMore (bN (fun i=>(ds.map fg).getD i Str.empty) i) ((ds.map fg).getD i Str.empty)))
       rw[Zw]
       rfl
      ·rw[ak h]
       exact kp a u h e
     ·rintro H4 ⟨IP,kp⟩
      have qS:ao H3 H4:=fun a u e=>kp a u (aw e hD) e
      refine⟨⟨_,qS.seq (Hz.seq mM),by rw[hl];exact Je _⟩,?_⟩
      refine⟨D,_,rfl,IP,_,rfl,_,_,rfl,.inl ⟨_,qS.seq (Hz.seq mM),rfl⟩,.inl ⟨rfl,?_⟩⟩
      have z:=q H4 (n1.same.trans (Hz.trans qS))
      have e:cT (.list ds)=decide (V.int ((bN (fun i=>(ds.map fg).getD i Str.empty) ds.length).length:Nat)=V.int (us.length:Nat)):=by
       show(!ds.isEmpty&&(ds.all bq&&decide ((bN (fun i=>(ds.map fg).getD i Str.empty) ds.length).length=ds.length)))=_
       rw[hem,iR,Bool.not_false,U2,U2,Y4,decide_eq_true_iff,decide_eq_true_iff,hl]
       constructor
       ·intro z;rw[z]
       ·intro z;injection z with z;omega
      rw[e] at z
      exact z
 | _=>exact bK (q H (ao.refl _))
end
theorem iG {H:Hp}{b c:Addr}:ao (fK H b c) H:=fun a o e=>(jE e).1
theorem jD {K:Ja}{H:Hp}{ds:List PyData}{vs:List V}{j:Nat}{d:PyData}{v:V}(h:aN K H ds vs)(hd:ds[j]? = some d)(hv:vs[j]? = some v):Den K H d v:=by
 obtain⟨u,hu,q⟩:=h.get hd
 rw[hv] at hu;cases hu
 exact q
noncomputable def Wi:List PyData->Bool
 | []=>true
 | .int _::_=>false
 | _::_=>true
mutual
noncomputable def Mq:PyData->Bool
 | .list ds=>Wi ds&&xg ds
 | .tuple ds=>xg ds
 | _=>true
noncomputable def xg:List PyData->Bool
 | []=>true
 | d::ds=>Mq d&&xg ds
end
theorem FP {K:Ja}{H:Hp}{d:PyData}{i:Int}(h:Den K H d (.int i)):d = .int i:=by
 cases d with
 | int k=>unfold Den at h;cases h;rfl
 | none=>unfold Den at h;cases h
 | bool b=>unfold Den at h;cases h
 | str x=>unfold Den at h;cases h
 | list ds=>unfold Den at h;obtain⟨_,_,e,_⟩:=h;cases e
 | tuple ds=>unfold Den at h;obtain⟨_,_,e,_⟩:=h;cases e
 | dict _=>unfold Den at h;exact h.elim
mutual
theorem Den.hide {K:Ja}{H:Hp}{b c:Addr}{t:Int}(bx:Bx H b c t):∀{d:PyData} {v:V},Mq d=true->Den K H d v->Den K (fK H b c) d v
 | .none,_,_,h=>by unfold Den at h ⊢;exact h
 | .bool _,_,_,h=>by unfold Den at h ⊢;exact h
 | .int _,_,_,h=>by unfold Den at h ⊢;exact h
 | .str _,_,_,h=>by unfold Den at h ⊢;exact h
 | .list ds,_,n,h=>by
  unfold Den at h ⊢
  unfold Mq at n
  rw[Jx] at n
  obtain⟨a,vs,h1,h2,h3⟩:=h
  refine⟨a,vs,h1,?_,aN.hide bx n.2 h3⟩
  obtain⟨ns,bx⟩:=bx
  rcases h2 with (h2|⟨o,h2⟩)|h2
  ·refine .inl (.inl ?_)
   rw[bW (fun z=>by rw[z,bx.d] at h2;cases h2) (fun z =>?_)]
   ·exact h2
   rw[z,bx.l] at h2
   cases h2
   cases ds with
   | nil=>
    unfold aN at h3
    have:=bx.ne
    cases ns with
    | nil=>exact absurd this (by decide)
    | cons i ns=>cases h3
   | cons d ds=>
    unfold aN at h3
    obtain⟨v,r,e,hv,_⟩:=h3
    cases ns with
    | nil=>cases e
    | cons i ns=>
     cases e
     rw[FP hv] at n
     exact absurd n.1 (by simp[Wi])
  ·refine .inl (.inr ⟨o,?_⟩)
   rw[bW (fun z=>by rw[z,bx.d] at h2;cases h2) (fun z=>by rw[z,bx.l] at h2;cases h2)]
   exact h2
  ·exact .inr h2
 | .tuple ds,_,n,h=>by
  unfold Den at h ⊢
  unfold Mq at n
  obtain⟨a,vs,h1,h2,h3⟩:=h
  refine⟨a,vs,h1,?_,aN.hide bx n h3⟩
  obtain⟨ns,bx⟩:=bx
  rcases h2 with (h2|⟨o,h2⟩)|h2
  ·refine .inl (.inl ?_)
   rw[bW (fun z=>by rw[z,bx.d] at h2;cases h2) (fun z=>by rw[z,bx.l] at h2;cases h2)]
   exact h2
  ·refine .inl (.inr ⟨o,?_⟩)
   rw[bW (fun z=>by rw[z,bx.d] at h2;cases h2) (fun z=>by rw[z,bx.l] at h2;cases h2)]
   exact h2
  ·exact .inr h2
 | .dict _,_,_,h=>by unfold Den at h;exact h.elim
theorem aN.hide {K:Ja}{H:Hp}{b c:Addr}{t:Int}(bx:Bx H b c t):∀{ds:List PyData} {vs:List V},xg ds=true->aN K H ds vs->aN K (fK H b c) ds vs
 | [],_,_,h=>by unfold aN at h ⊢;exact h
 | d::ds,_,n,h=>by
  unfold aN at h ⊢
  unfold xg at n
  rw[Jx] at n
  obtain⟨v,r,h1,h2,h3⟩:=h
  exact⟨v,r,h1,Den.hide bx n.1 h2,aN.hide bx n.2 h3⟩
end
theorem wO {i:Int}(h:i.natAbs<2^200):PyData.weight (.int i)<=201:=by
 simp only[PyData.weight]
 split
 ·omega
 ·rename_i h0
  have E8:i.natAbs≠0:=by
   intro z
   exact h0 (by simp;omega)
  have:=(Nat.log2_lt E8).mpr h
  omega
def tD (K:Ja):Sp:=fun vs H Q _=>dS fun(a:Addr) (ns:List Int)=>vs=[.ref a]/\bb K H a (ns.map V.int)/\ns.length<=63 /\
 ∀(b c:Addr) (H':Hp),Bx H' b c 0->H b=none->H c=none->ao H (fK H' b c)->Q (.ref b) H'
theorem Den.ints {K:Ja}{H:Hp}:∀(ns:List Int),aN K H (ns.map PyData.int) (ns.map V.int)
 | []=>by unfold aN;rfl
 | n::ns=>by
  rw[J0,J0]
  unfold aN
  exact⟨_,_,rfl,by unfold Den;rfl,Den.ints ns⟩
theorem Lv (ds:List PyData):PyData.eqv (.list ds) (.list [])=ds.isEmpty:=by
 cases ds<;>simp[PyData.eqv,PyData.eqvAll]
theorem Hs {n:Nat}(ns:List Int):Sh (n+1) (.list (ns.map PyData.int)):=Sh.list fun d hd=>by
 refine ai.el (Uh.mp hd) _ ?_
 rintro i _ rfl
 exact Sh.int
section
variable {P:Program}{w:World}{K:Ja}{mg:Str->Option Value}{base:Heap}{f:Addr}{fd:FuncData}
theorem gT:aA ["_law_script", "_law_cells"] ["_law_script"] (aj (top iU)):=⟨rfl,rfl,rfl,by decide +kernel,rfl,by decide +kernel,by decide +kernel⟩
theorem DT (F:bO K "_law_begin" "_law_begin" (top iU) f fd)(T:Nm mg):bh P w K mg base eP 1 f fd ["_law_script"] (tD K):=by
 refine F.ok gT (fun vs H Q E h =>?_) (fun cG A outer s H vs Q E hr h =>?_)
 ·obtain⟨a,ns,rfl,_⟩:=h
  rfl
 obtain⟨a,ns,rfl,hS,hlen,q⟩:=h
 have eT:=hr.units
 refine⟨_,(af (aF (i:=1) gT.nd rfl (Or.inl rfl) (bf (EX K) rfl T.n_list (by rfl) (aa (da (VM K) (pv 0) gI (cF ah)) ae)))
  (af (bA (aQ (qj K eT) (pv 1) (fE ae) (aV _)) (ag (aF (i:=1) gT.nd rfl (Or.inl rfl) (fE (aa ah ae)))) aM)
  (ag (av (Nu (vc aq (pv 1) (vc aq ah HL)) rfl rfl (by decide) (by decide)))))),?_⟩
 refine⟨_,rfl,_,rfl,.inl ⟨a,_,rfl,hS,fun r1 H1 n1 =>?_⟩⟩
 refine⟨r1,_,rfl,.inl (bb.of n1.at),fun r2 H2 n2=>gn ?_⟩
 have hc:ie (ns.map V.int) none (some 63)=ns.map V.int:=by
  have e:=IY (ns.map V.int) 63
  rw[Yz (by rw[Jc];exact hlen)] at e
  exact e
 have Ld:H2 r2=some (.lst (ns.map V.int)):=by rw[<-hc];exact n2.at
 have gB:=n1.same.trans n2.same
 dsimp only
 refine iq (t:=Fv _ _ _) (fun σ H'=>dS fun(r:Addr) (Fw:List Int) =>σ=[some (.ref a),some (.ref r)]/\H' r=some (.lst (Fw.map V.int))/\0<Fw.length/\Fw.length<=64/\H r=none/\ao H H') (fun Nx nx =>?_) ?_
 ·refine⟨_,rfl,by show 0<=sizeLine;decide,fun r3 H3 n3 =>?_⟩
  have d2:Den K H3 (.list (ns.map PyData.int)) (.ref r2):=Den.list (bb.of (n3.same _ _ Ld)) (Den.ints ns)
  have d3:Den K H3 (.list []) (.ref r3):=Den.list (bb.of n3.at) (Den.ints [])
  refine .inr ⟨_,_,d2,d3,(Hs (n:=1) ns).shaped (by decide),by decide +kernel,_,rfl,?_⟩
  rw[Lv]
  refine eU (fun e =>?_) (fun e =>?_)
  ·refine⟨by show 1<=sizeLine;decide,fun r4 H4 n4=>gn (nx _ _ ⟨r4,[_],rfl,n4.at,by decide,by decide,(gB.trans n3.same).free n4.nn,gB.trans (n3.same.trans n4.same)⟩)⟩
  ·refine nx _ _ ⟨r2,ns,rfl,n3.same _ _ Ld,?_,by omega,n1.same.free n2.nn,gB.trans n3.same⟩
   cases ns with
   | nil=>exact absurd rfl e
   | cons _ _=>exact Nat.succ_pos _
 intro σ H3
 refine ai.go ?_
 rintro r Fw rfl hr' l0 l1 hn sm
 intro p H0 n0
 refine⟨_,rfl,?_⟩
 refine⟨n0.at,[(.inr "cells",.ref r),(.inr "turn",.int 0)],rfl,by show 2<=15;decide,fun H6 n6 =>?_⟩
 have Ga:r≠p:=aw hr' n0.nn
 have hp:H p=none:=sm.free n0.nn
 refine q p r H6 ⟨Fw,?_,?_,l0,l1⟩ hp hn (fun b o e =>?_)
 ·rw[n6.at];rfl
 ·rw[n6.ne Ga,n0.ne Ga];exact hr'
 ·have S8:b≠p:=aw e hp
  have P7:b≠r:=aw e hn
  rw[bW S8 P7,n6.ne S8,n0.ne S8]
  exact sm _ _ e
end
theorem qx {K:Ja}{H:Hp}:∀{ns:List Int} {vs:List V},aN K H (ns.map PyData.int) vs->vs=ns.map V.int
 | [],_,h=>by rw[List.map_nil] at h;unfold aN at h;exact h
 | n::ns,_,h=>by
  rw[J0] at h
  unfold aN at h
  obtain⟨v,r,rfl,h1,h2⟩:=h
  unfold Den at h1
  rw[h1,qx h2];rfl
theorem Dp {K:Ja}{H:Hp}{ns:List Int}{v:V}(h:Den K H (.list (ns.map PyData.int)) v):∃p,v = .ref p/\bb K H p (ns.map V.int):=by
 unfold Den at h
 obtain⟨p,vs,rfl,h1,h2⟩:=h
 rw[qx h2] at h1
 exact⟨p,rfl,h1⟩
theorem vL.same {H H':Hp}{b c:Addr}{t:Int}{ns:List Int}(x:vL H b c t ns)(s:ao H H'):vL H' b c t ns:=⟨s _ _ x.d,s _ _ x.l,x.ne,x.le⟩
section
variable {P:Program}{w:World}{K:Ja}{mg:Str->Option Value}{base:Heap}{f:Addr}{fd:FuncData}
theorem ck:aA ["_law_state", "_law_many", "_law_turn", "_law_place", "_law_cell", "_law_digit", "_law_prime", "_law_mixed_here"] ["_law_state", "_law_many"] (aj (top jF)):=⟨rfl,rfl,rfl,by decide +kernel,rfl,by decide +kernel,by decide +kernel⟩
theorem HY (F:bO K "_law_take" "_law_take" (top jF) f fd)(T:Nm mg):bh P w K mg base eP 1 f fd ["_law_state", "_law_many"] xP:=by
 refine F.ok ck (fun vs H Q E h =>?_) (fun cG A outer s H vs Q E hr h =>?_)
 ·obtain⟨b,c,t,ns,many,rfl,_⟩:=h
  rfl
 obtain⟨b,c,t,ns,many,rfl,bx,t0,t1,m0,m1,q⟩:=h
 have hu:=nP hr
 refine⟨_,(af (aF (i:=2) ck.nd rfl (Or.inl rfl) (aH cE (bM hu (pv 0) aq (fun _ _=>rfl)) ah))
  (af (rC hu (pv 0) aq (pv 2) rfl)
  (af (aF (i:=3) ck.nd rfl (Or.inl rfl) (aH iD (pv 2) (ax (ia K) rfl T.n_len (by rfl) (aa (bM hu (pv 0) aq (fun _ _=>rfl)) ae))))
  (af (aF (i:=4) ck.nd rfl (Or.inl rfl) (bp (fI K) (bM hu (pv 0) aq (fun _ _=>rfl)) (pv 3) (fun _ _=>rfl)))
  (af (bA (aQ Ip (pv 4) (aH LB ah ah) (aV _)) (af (EF (ax Fq rfl T.n_divmod (by rfl) (aa (pv 4) (aa (pv 1) ae))) (tupK K 2 rfl (aR (Md (bM hu (pv 0) aq (fun _ _=>rfl)) (pv 3) set_list) (aR (aD (i:=5) ck.nd rfl (Or.inl rfl)) cu))))
  (ag (av (pv 5)))) aM)
  (af (aF (i:=6) ck.nd rfl (Or.inl rfl) (bp (fI K) (GF (K:=K) (dW lit_int (dW lit_int (dW lit_int (dW lit_int (dW lit_int (dW lit_int (dW lit_int DH)))))))) (aH iD (pv 2) ah) (fun _ _=>rfl)))
  (af (aF (i:=7) ck.nd rfl (Or.inl rfl) (aH iD (aH sy (aH cE (aH cE (aH iD (pv 4) (pv 6)) (aH sy (aH sy (pv 2) (pv 2)) ah)) ah) ah) ah))
  (af (aF (i:=7) ck.nd rfl (Or.inl rfl) (aH iD (aH sy (pv 7) (pv 7)) (pv 6)))
  (ag (av (aH iD (aH zt (aH iD (aH sy (aH cE (pv 7) (aH sy (pv 2) ah)) ah) ah) ah) (pv 1)))))))))))),?_⟩
 refine⟨_,rfl,b,_,rfl,bx.EZ,.inl ⟨_,_,rfl,rfl,?_⟩⟩
 refine⟨_,rfl,_,rfl,b,_,rfl,bx.ER (t+1),?_⟩
 have wo:=bx.turned (t+1)
 refine⟨_,rfl,_,rfl,b,_,rfl,wo.lI,_,_,rfl,.inl ⟨_,bb.of wo.l,rfl⟩,_,_,rfl,rfl,?_,?_⟩
 ·rw[Jc];have:=wo.ne;omega
 have hlen:(ns.map V.int).length=ns.length:=Jc _
 have Hg:0<=(t+1)%((ns.map V.int).length:Int):=Int.emod_nonneg _ (by have:=wo.ne;omega)
 have qL:(t+1)%((ns.map V.int).length:Int)<ns.length:=by rw[hlen];exact Int.emod_lt_of_pos _ (by have:=wo.ne;omega)
 refine ai.el (at_of Hg qL) _ ?_
 rintro v hv VG
 refine⟨_,rfl,b,_,rfl,wo.lI,_,rfl,.inl ⟨c,_,_,_,rfl,rfl,bb.of wo.l,hv,?_⟩⟩
 refine⟨_,rfl,_,_,rfl,rfl,⟨by decide,by decide,by decide⟩,_,_,rfl,rfl,_,rfl,?_⟩
 refine eU (fun _ =>?_) (fun _ =>?_)
 ·refine⟨_,rfl,_,rfl,v,many,rfl,⟨m0,by omega⟩,fun pt H2 n2 =>?_⟩
  obtain⟨hpb,hpc⟩:pt≠b/\pt≠c:=⟨fun z=>(by have:=n2.nn;rw[z,wo.d] at this;cases this),fun z=>(by have:=n2.nn;rw[z,wo.l] at this;cases this)⟩
  have Mz:=wo.same n2.same
  refine⟨pt,_,rfl,br.of n2.at,rfl,_,_,rfl,?_⟩
  refine⟨_,rfl,b,_,rfl,Mz.lI,_,rfl,c,_,_,_,rfl,rfl,Mz.l,K0 Hg (by simpa only [hlen] using qL),?_⟩
  refine⟨_,_,rfl,rfl,_,rfl,?_⟩
  refine q (v%many) _ (ns.set ((t+1)%((ns.map V.int).length:Int)).toNat (v / many)) (Int.emod_nonneg _ (by omega)) (Int.emod_lt_of_pos _ m0) ⟨?_,?_,?_,?_⟩ ?_
  ·rw[ak Mz.bc];exact Mz.d
  ·rw[ay,List.map_set]
  ·rw[Y6];exact wo.ne
  ·rw[Y6];exact wo.le
  ·rw[Ar]
   refine nI fun a o h1 h2 e =>?_
   rw[n2.ne (fun z =>?_),ak h1]
   ·exact e
   ·have z2:=n2.nn
    rw[ak hpb,<-z,e] at z2
    cases z2
 ·intro v1 H2 gB d2
  obtain⟨L,hL,iR,d2⟩:∃L:List Int,L.length=7/\(∀x∈L,0<x/\x<2147483648)/\Den K H2 (.list (L.map PyData.int)) v1:=by
   refine⟨[_,_,_,_,_,_,_],?_,?_,d2.same CN⟩
   ·rfl
   ·decide
  obtain⟨pp,rfl,hS⟩:=Dp d2
  have X5:0<=(t+1)%7:=Int.emod_nonneg _ (by decide)
  have WU:(t+1)%7<7:=Int.emod_lt_of_pos _ (by decide)
  have Mz:=wo.same gB
  refine⟨_,rfl,_,_,rfl,rfl,(by dsimp only;decide),?_⟩
  refine ai.el (at_of X5 (show(t+1)%7<(L.length:Int) by rw[hL];exact WU)) _ ?_
  rintro pr Ga hpr'
  have Sx:=iR pr (J2 hpr')
  refine .inl ⟨pp,_,_,_,rfl,rfl,hS,Ga,?_⟩
  obtain⟨pr0,pr1⟩:=Sx
  refine⟨_,rfl,_,rfl,_,_,rfl,rfl,pr0,_,rfl,_,rfl,.inl ⟨_,_,rfl,rfl,.inl ⟨by omega,by omega⟩,.inl ⟨_,_,rfl,rfl,.inr ⟨by decide,by decide⟩,.inl ⟨_,_,rfl,rfl,.inl ⟨_,_,rfl,rfl,.inl ⟨_,_,rfl,rfl,.inr ⟨by decide,by decide⟩,_,_,rfl,rfl,(by dsimp only;decide),?_⟩⟩⟩⟩⟩⟩
  have cm:∀(x y p:Int),0<p->p<2^64->ye (x%p) y:=fun x y p h0 h1=>JU h0 h1
  refine⟨_,rfl,_,rfl,.inl ⟨_,_,rfl,rfl,cm _ _ _ (by decide) (by decide),?_⟩⟩
  refine⟨_,rfl,_,_,rfl,rfl,pr0,?_⟩
  refine⟨_,rfl,_,rfl,.inl ⟨_,_,rfl,rfl,.inl ⟨by omega,by omega⟩,.inl ⟨_,_,rfl,rfl,.inl ⟨_,_,rfl,rfl,.inr ⟨by decide,by decide⟩,_,_,rfl,rfl,(by dsimp only;decide),_,_,rfl,rfl,⟨by decide,by decide⟩,_,rfl,_,_,rfl,rfl,m0,?_⟩⟩⟩⟩
  refine q _ _ ns (Int.emod_nonneg _ (by omega)) (Int.emod_lt_of_pos _ m0) Mz ?_
  have:=ao.fK (b:=b) (c:=c) gB
  rw[A2] at this
  exact this
end
noncomputable def jo (x:Str):Bool:=x.cps.all (· < 128)
mutual
noncomputable def Pz:PyData->Bool
 | .none | .bool _=>true
 | .int i=>decide (i.natAbs<10^40)
 | .str x=>jo x
 | .list ds | .tuple ds=>Fm ds
 | .dict _=>false
noncomputable def Fm:List PyData->Bool
 | []=>true
 | d::ds=>Pz d&&Fm ds
end
theorem zT (ts:List Str):(listText ts).length<=piled ts+2:=by
 unfold listText
 rw[strLen_append]
 have e:(((("]" : String):Str))).length=1:=rfl
 rw[e]
 cases ts with
 | nil=>exact Je _
 | cons t ts=>
  have q:=textFrom_length_pos ts 1 ((("[" : String):Str)++((if 0>0 then ", " else "" : String):Str)++t) (by decide)
  show(textFrom 1 _ ts).length+1<=_
  rw[q,strLen_append,strLen_append,piled_cons]
  have e1:(((("[" : String):Str))).length=1:=rfl
  have e2:((((if 0>0 then ", " else "" : String):Str))).length=0:=rfl
  rw[e1,e2]
  omega
theorem zV (ts:List Str):(tupleText ts).length<=piled ts+3:=by
 unfold tupleText
 rw[strLen_append,strLen_append]
 have e1:((("(" : String):Str)).length=1:=rfl
 have e3:(((if ts.length==1 then ",)" else ")" : String):Str)).length<=2:=by split<;>decide
 have e2:(Str.join ", " ts).length<=piled ts:=by
  cases ts with
  | nil=>exact Je _
  | cons t ts=>have:=join_length_add (t::ts) (by simp);omega
 rw[e1]
 omega
theorem HZ {i:Int}(h:i.natAbs<10^40):(Str.ofString (toString i)).length<=41:=by
 cases i with
 | ofNat n=>
  have:=PyProof.Rows.toString_length_le (v:=Int.ofNat n) (by simp) (k:=40) (by decide) (by
   have h:n<10^40:=h
   show((n:Nat):Int)<10^40
   exact_mod_cast h)
  omega
 | negSucc n=>
  have h:n+1<10^40:=h
  have:=PyProof.Rows.toString_length_le (v:=Int.ofNat (n+1)) (by show(0:Int)<=((n+1:Nat):Int);omega) (k:=40) (by decide) (by
   show((n+1:Nat):Int)<10^40
   exact_mod_cast h)
  have e:toString (Int.negSucc n) = "-" ++ toString (Int.ofNat (n+1)):=rfl
  rw[e]
  have e2:∀a b:String,(Str.ofString (a++b)).length=(Str.ofString a).length+(Str.ofString b).length:=fun a b=>by
   simp[PyProof.Rows.ofString_length]
  rw[e2]
  have e3:(Str.ofString "-").length=1:=rfl
  omega
mutual
theorem nL:∀(d:PyData),Pz d=true->d.shown.length<=44*d.weight+42/\d.showable=true/\d.canLay0=true
 | .none,_=>⟨by decide +kernel,rfl,rfl⟩
 | .bool b,_=>⟨by cases b<;>decide +kernel,rfl,rfl⟩
 | .int i,h=>by
  have h:i.natAbs<10^40:=by simpa [Pz] using h
  refine⟨?_,?_,rfl⟩
  ·have:=HZ h
   simp only[PyData.shown]
   show(Str.ofString (toString i)).length<=_
   omega
  ·simp only[PyData.showable,decide_eq_true_eq]
   by_cases z:i.natAbs=0
   ·rw[z];decide
   ·exact(Nat.log2_lt z).mpr (Jq h (by decide))
 | .str x,h=>by
  have hx:∀c∈x.cps.toList,c<128:=fun c hc=>by
   have h:jo x=true:=by simpa only [Pz] using h
   unfold jo at h
   rw[Array.all_eq_true_iff_forall_mem] at h
   have:=h c (by simpa using hc)
   simpa using this
  refine⟨?_,rfl,?_⟩
  ·have:=StrLaws.reprText_len x fun c hc=>Jq (hx c hc) (by decide)
   simp only[PyData.shown,PyData.weight]
   have e:x.cps.size=x.length:=rfl
   omega
  ·exact(Sh.str (n:=0) (dM fun ch hc=>by have:=hx ch hc;omega)).1
 | .list ds,h=>by
  obtain⟨h1,h2,h3⟩:=lV ds (by simpa only [Pz] using h)
  refine⟨?_,by simpa only [PyData.showable] using h2,by simpa only [PyData.canLay0] using h3⟩
  have:=zT (PyData.shownAll ds)
  simp only[PyData.shown,PyData.weight]
  omega
 | .tuple ds,h=>by
  obtain⟨h1,h2,h3⟩:=lV ds (by simpa only [Pz] using h)
  refine⟨?_,by simpa only [PyData.showable] using h2,by simpa only [PyData.canLay0] using h3⟩
  have:=zV (PyData.shownAll ds)
  simp only[PyData.shown,PyData.weight]
  omega
 | .dict _,h=>by simp[Pz] at h
theorem lV:∀(ds:List PyData),Fm ds=true->piled (PyData.shownAll ds)<=44*PyData.weightAll ds/\PyData.showableAll ds=true/\PyData.canLayAll0 ds=true
 | [],_=>⟨Je _,rfl,rfl⟩
 | d::ds,h=>by
  simp only[Fm,Jx] at h
  refine ai.el (nL d h.1) _ ?_
  rintro a1 a2 a3
  refine ai.el (lV ds h.2) _ ?_
  rintro b1 b2 b3
  refine⟨?_,by simp only[PyData.showableAll,a2,b2];rfl,by simp only[PyData.canLayAll0,a3,b3];rfl⟩
  simp only[PyData.shownAll,PyData.weightAll,piled_cons]
  omega
end
theorem sN {ds:List PyData}:Fm ds=true ↔ ∀d∈ds,Pz d=true:=by
 induction ds with
 | nil=>simp[Fm]
 | cons d ds ih=>simp[Fm,ih]
theorem sY {m:Nat}:∀{ds:List PyData},(∀e∈ds,e.depth<=m)->PyData.depthAll ds<=m
 | [],_=>by simp[PyData.depthAll]
 | d::ds,h=>by
  have:=sY (m:=m) (ds:=ds) fun e he=>h e (Jo _ he)
  have:=h d Jr
  simp only[PyData.depthAll]
  omega
structure Gd (w dp:Nat)(d:PyData):Prop where
 pz:Pz d=true
 wt:d.weight<=w
 dp:d.depth<=dp
theorem Gd.mono {w dp w' Nb:Nat}{d:PyData}(h:Gd w dp d)(hw:w<=w')(hd:dp<=Nb):Gd w' Nb d:=⟨h.pz,Jh h.wt hw,Jh h.dp hd⟩
theorem Gd.shaped {w dp:Nat}{d:PyData}(h:Gd w dp d)(hd:dp<=64):SeqAt.shaped d=true:=by
 unfold SeqAt.shaped
 rw[(nL d h.pz).2.2,decide_eq_true (Jh h.dp hd)];rfl
theorem CZ (xs ys:List PyData):PyData.weightAll (xs++ys)=PyData.weightAll xs+PyData.weightAll ys:=by
 induction xs with
 | nil=>simp[PyData.weightAll]
 | cons x xs ih=>rw[List.cons_append];simp only[PyData.weightAll,ih];omega
structure Gs (w dp:Nat)(ds:List PyData):Prop where
 pz:∀d∈ds,Pz d=true
 wt:PyData.weightAll ds<=w
 dp:∀d∈ds,d.depth<=dp
theorem Gs.list {w dp:Nat}{ds:List PyData}(h:Gs w dp ds):Gd w (dp+1) (.list ds):=⟨by simp only[Pz];exact sN.mpr h.pz,by simp only[PyData.weight];exact h.wt,by simp only[PyData.depth];have:=sY h.dp;omega⟩
theorem Gs.tuple {w dp:Nat}{ds:List PyData}(h:Gs w dp ds):Gd w (dp+1) (.tuple ds):=⟨by simp only[Pz];exact sN.mpr h.pz,by simp only[PyData.weight];exact h.wt,by simp only[PyData.depth];have:=sY h.dp;omega⟩
theorem Gs.mono {w dp w' Nb:Nat}{ds:List PyData}(h:Gs w dp ds)(hw:w<=w')(hd:dp<=Nb):Gs w' Nb ds:=⟨h.pz,Jh h.wt hw,fun d m=>Jh (h.dp d m) hd⟩
theorem Gs.app {w dp w':Nat}{xs ys:List PyData}(h:Gs w dp xs)(g:Gs w' dp ys):Gs (w+w') dp (xs++ys):=
 ⟨fun d m=>(Ug.mp m).elim (h.pz d) (g.pz d),by rw[CZ];have:=h.wt;have:=g.wt;omega,fun d m=>(Ug.mp m).elim (h.dp d) (g.dp d)⟩
theorem Gs.one {w dp:Nat}{d:PyData}(h:Gd w dp d):Gs (w+1) dp [d]:=
 ⟨fun e m=>by rw[Jz.mp m];exact h.pz,by have:=h.wt;simp only[PyData.weightAll];omega,fun e m=>by rw[Jz.mp m];exact h.dp⟩
theorem Gs.cons {w dp w':Nat}{d:PyData}{ds:List PyData}(h:Gd w dp d)(g:Gs w' dp ds):Gs (w+1+w') dp (d::ds):=(Gs.one h).app g
theorem Gs.nil {dp:Nat}:Gs 0 dp []:=⟨(fun d m=>nomatch m),Je _,(fun d m=>nomatch m)⟩
theorem Gd.int {w dp:Nat}{i:Int}(h:i.natAbs<10^40)(hw:201<=w):Gd w dp (.int i):=⟨by simpa [Pz] using h,Jh (wO (Jq h (by decide))) hw,by simp[PyData.depth]⟩
theorem Gd.str {w dp:Nat}{x:Str}(h:jo x=true)(hw:x.length<=w):Gd w dp (.str x):=⟨by simpa only [Pz] using h,by simp only[PyData.weight];exact hw,by simp[PyData.depth]⟩
theorem wA {K:Ja}{H:Hp}{x:Str}:Den K H (.str x) (.str x):=by unfold Den;rfl
theorem wI {K:Ja}{H:Hp}{x:Int}:Den K H (.int x) (.int x):=by unfold Den;rfl
theorem mr {K:Ja}{H:Hp}:aN K H [] []:=by unfold aN;rfl
theorem bL {K:Ja}{H:Hp}{d:PyData}{v:V}{ds:List PyData}{vs:List V}(h:Den K H d v)(g:aN K H ds vs):aN K H (d::ds) (v::vs):=by unfold aN;exact⟨_,_,rfl,h,g⟩
theorem MM {K:Ja}{G:Hp}{p:Addr}{ds:List PyData}{vs:List V}(h:G p=some (.tup vs))(g:aN K G ds vs):Den K G (.tuple ds) (.ref p):=by unfold Den;exact⟨p,vs,rfl,br.of h,g⟩
theorem IV {K:Ja}{G:Hp}{p:Addr}{ds:List PyData}{vs:List V}(h:G p=some (.lst vs))(g:aN K G ds vs):Den K G (.list ds) (.ref p):=by unfold Den;exact⟨p,vs,rfl,bb.of h,g⟩
theorem FF {x:Str}:jo x=true ↔ ∀c∈x.cps.toList,c<128:=by
 unfold jo
 rw[Array.all_eq_true_iff_forall_mem]
 constructor
 ·intro h c hc
  have:=h c (by simpa using hc)
  simpa using this
 ·intro h c hc
  have:=h c (by simpa using hc)
  simpa using this
noncomputable def LP:PyData->Nat
 | .list ds | .tuple ds=>ds.length
 | _=>0
noncomputable def fH:PyData->PyData
 | .tuple ds =>.list ds
 | d=>d
noncomputable def cy:PyData->List (Str×Str)
 | .list ds=>ds.map fun d=>match d with
  | .tuple [.str x,.str y]=>(x,y)
  | _=>(Str.empty,Str.empty)
 | _=>[]
theorem zg {d:PyData}(h:cT d=true):d=aI (cy d)/\∀q∈cy d,cS (.str q.1)=true/\bV (.str q.2)=true:=by
 cases d with
 | list ds=>
  replace h:(!ds.isEmpty&&(ds.all bq&&decide ((bN (fun i=>(ds.map fg).getD i Str.empty) ds.length).length=ds.length)))=true:=h
  rw[Jx,Jx,Y2] at h
  have he:=h.2.1
  clear h
  induction ds with
  | nil=>exact⟨rfl,fun q hq=>nomatch hq⟩
  | cons e ds ih=>
   obtain⟨e1,e2⟩:=ih fun x hx=>he x (Jo _ hx)
   have z:=he e Jr
   obtain⟨x,y,rfl⟩:=uO z
   have z:(cS (.str x)&&bV (.str y))=true:=z
   rw[Jx] at z
   have e1:ds=(cy (.list ds)).map fun q =>.tuple [.str q.1,.str q.2]:=PyData.list.inj e1
   refine⟨?_,fun q hq =>?_⟩
   ·show PyData.list (.tuple [.str x,.str y]::ds) = .list (.tuple [.str x,.str y]::(cy (.list ds)).map fun q =>.tuple [.str q.1,.str q.2])
    rw[<-e1]
   ·rcases Jv.mp (show q∈(x,y)::cy (.list ds) from hq) with rfl|hq
    ·exact z
    ·exact e2 q hq
 | _=>simp[cT] at h
theorem fJ {x y:Str}(h:x.cps.toList=y.cps.toList):x=y:=by
 cases x;cases y
 congr 1
 exact Array.toList_inj.mp h
theorem qC:∀(p:Str) (l:List Str),PyProof.Rows.risingS p l=true->(p::l).Pairwise fun a b=>a.cps.toList<=b.cps.toList
 | p,[],_=>by simp
 | p,x::r,h=>by
  have h:(!Spec.ltCps x.cps.toList p.cps.toList&&PyProof.Rows.risingS x r)=true:=h
  rw[Jx,PyProof.Rows.ltCps_eq,Bool.not_eq_true',decide_eq_false_iff_not] at h
  have ih:=qC x r h.2
  have px:p.cps.toList<=x.cps.toList:=h.1
  refine List.pairwise_cons.mpr ⟨fun y hy =>?_,ih⟩
  rcases Jv.mp hy with rfl|hy
  ·exact px
  ·exact List.le_trans px ((List.pairwise_cons.mp ih).1 y hy)
theorem qU {a:List Str}(h:PyProof.Rows.sortedS a=true):a.Pairwise fun a b=>a.cps.toList<=b.cps.toList:=by
 cases a with
 | nil=>exact .nil
 | cons p l=>exact qC p l h
theorem AF {a b:List Str}(h:a.Perm b)(ha:PyProof.Rows.sortedS a=true)(hb:PyProof.Rows.sortedS b=true):a=b:=
 h.eq_of_pairwise (fun x y _ _ h1 h2=>fJ (List.le_antisymm h1 h2)) (qU ha) (qU hb)
noncomputable def uD (bk:List (Str×Str)):Bool := @decide (eV (bk.map (·.2))) (Classical.propDecidable _)
noncomputable def cZ (names:List Str)(d:PyData):Bool:=cT (fH d)&&(decide (((cy (fH d)).map (·.1)).Perm names)&&uD (cy (fH d)))
structure II (d:PyData):Prop where
 pz:Pz d=true
 wt:d.weight<=300000
 sh:SeqAt.shaped d=true
 pJ:∀ds,fH d = .list ds->ds.length<=60
 cd:∀q∈cy (fH d),q.2.length<=200000
theorem xh (d:PyData):(fH d).weight=d.weight:=by cases d<;>simp only[fH,PyData.weight]
theorem L7 {d:PyData}(h:Pz d=true):Pz (fH d)=true:=by cases d<;>simpa only [fH,Pz] using h
theorem JP {d:PyData}(h:SeqAt.shaped d=true):SeqAt.shaped (fH d)=true:=by cases d<;>exact h
theorem LD {K:Ja}{H:Hp}{bk:List (Str×Str)}{v:V}(h:Den K H (aI bk) v):dS fun(a:Addr) (us:List V)=>v = .ref a/\bb K H a us/\us.length=bk.length/\∀(i:Nat) (q:Str×Str),bk[i]? = some q->∃b:Addr,us[i]? = some (.ref b)/\br K H b [.str q.1,.str q.2]:=by
 unfold aI Den at h
 obtain⟨a,us,rfl,hS,hds⟩:=h
 refine⟨a,us,rfl,hS,by have:=hds.len;rw[Jc] at this;exact this,fun i q e =>?_⟩
 obtain⟨u,hu,du⟩:=hds.get (i:=i) (d := .tuple [.str q.1,.str q.2]) (by rw[Ji,e];rfl)
 unfold Den at du
 obtain⟨b,vs,rfl,hT,hd⟩:=du
 unfold aN at hd
 obtain⟨x,r,rfl,hx,hd⟩:=hd
 unfold aN at hd
 obtain⟨y,r,rfl,hy,hd⟩:=hd
 unfold aN at hd
 unfold Den at hx hy
 subst hd hx hy
 exact⟨b,hu,hT⟩
theorem vB:∀(a b:List Str),PyData.eqvAll (a.map PyData.str) (b.map PyData.str)=decide (a=b)
 | [],[]=>by simp[PyData.eqvAll]
 | [],_::_=>by simp[PyData.eqvAll]
 | _::_,[]=>by simp[PyData.eqvAll]
 | x::a,y::b=>by
  rw[J0,J0]
  simp only[PyData.eqvAll,PyData.eqv,vB a b,List.cons.injEq,Bool.decide_and]
  rfl
theorem xK {x:Str}(h:jo x=true):∀c∈x.cps.toList,c<128:=fun c hc=>by
 unfold jo at h
 rw[Array.all_eq_true_iff_forall_mem] at h
 have:=h c (by simpa using hc)
 simpa using this
theorem EL {ks:List Str}(h:∀x∈ks,jo x=true):SeqAt.shaped (.list (ks.map PyData.str))=true:=(Sh.list (n:=0) fun d hd=>by
 obtain⟨x,hx,rfl⟩:=Uh.mp hd
 exact Sh.str (dM fun ch hc=>by have:=xK (h x hx) ch hc;omega)).shaped (by decide)
def DB (K:Ja):Sp:=fun vs H Q _=>qi fun(v:V) (d:PyData) (p:Addr) (ns:List Str)=>vs=[v,.ref p]/\Den K H d v/\II d/\(bb K H p (ns.map V.str)∨br K H p (ns.map V.str))/\ns.length<64/\(∀x∈ns,jo x=true)/\∀H',ao H H'->Q (.bl (cZ ns d)) H'
section
variable {P:Program}{w:World}{K:Ja}{mg:Str->Option Value}{base:Heap}{f:Addr}{fd:FuncData}
theorem fD:aA ["thing", "names", "book"] ["thing", "names"] (aj (top dH)):=⟨rfl,rfl,rfl,by decide +kernel,rfl,by decide +kernel,by decide +kernel⟩
theorem L6 (F:bO K "is_free_book_of" "is_free_book_of" (top dH) f fd)(T:Nm mg)(kI:mg "sorted" = none)(Be:Fn P w K mg base 4 "is_book" ["thing"] (oB K))(KN:Fn P w K mg base 3 "free" ["book"] (xX K)):bh P w K mg base eP 5 f fd ["thing", "names"] (DB K):=by
 refine F.ok fD (fun vs H Q E h =>?_) (fun cG A outer s H vs Q E hr h =>?_)
 ·obtain⟨v,d,p,ns,rfl,_⟩:=h
  rfl
 obtain⟨v,d,p,ns,rfl,hd,fit,QB,nl,na,q⟩:=h
 have eT:=hr.units
 refine⟨_,(af (aF (i:=2) fD.nd rfl (Or.inl rfl) (gA (cf (ax (ip K) rfl T.n_isinstance (by rfl) (aa (pv 0) (aa (bH rfl T.n_tuple (by rfl) (v := .ty "tuple") rfl) ae)))) (bf (EX K) rfl T.n_list (by rfl) (aa (pv 0) ae)) (pv 0)))
  (af (bA (PW.pt (lW (dN (cf (aB (Be.mono (by decide)) hr rfl (aa (pv 2) ae)))) (jV (aQ (JV K eT) (ax (vg K) rfl kI (by rfl) (aa (dG rfl (cq (Nc:=["name", "code"]) (Fc:=[]) (js:=[])) (G7 K (pv 2)) (nQ (df (bG (i:=0) (n:=2) (by decide)) (df (bG (i:=1) (n:=2) (by decide)) ky cn et) cn (iz cn et))) (fun _ _ _ _ _=>(tupK K 2 rfl (aR (aD (i:=0) (qv ["name", "code"]) rfl (Or.inl rfl)) (aR (aD (i:=1) (qv ["name", "code"]) rfl (Or.inl rfl)) cu)))) (fun _ _ _ _ _=>dg) (fun _ _ _ _ _=>(pv 0))) ae)) (ax (vg K) rfl kI (by rfl) (aa (pv 1) ae)) (aV _))))) (ag (av hR)) aM)
  (ag (av (aB (KN.mono (by decide)) hr rfl (aa (pv 2) ae)))))),?_⟩
 refine fA (te:=Va _ _ _) (fun v2 H'=>ao H H'/\Den K H' (fH d) v2) (fun Qn qn =>?_) ?_
 ·refine⟨_,rfl,.inl ⟨_, "tuple",d,_,rfl,hd,(vk K d).2.2.2.2,_,rfl,?_⟩⟩
  cases d with
  | tuple ds=>
   have e:=hd
   unfold Den at e
   obtain⟨a,us,rfl,hT,hds⟩:=e
   refine bK ⟨_,rfl,a,us,rfl,.inr hT,fun l H1 n1=>qn _ _ ⟨n1.same,?_⟩⟩
   show Den K H1 (.list ds) _
   unfold Den
   exact⟨l,us,rfl,bb.of n1.at,hds.same n1.same⟩
  | _=>exact bF ⟨_,rfl,qn _ _ ⟨ao.refl _,hd⟩⟩
 rintro v2 H1 ⟨s1,d1⟩
 refine gn ?_
 refine⟨_,rfl,v2,fH d,rfl,d1,by rw[xh];exact fit.wt,JP fit.sh,fun ds e=>Jh (fit.pJ ds e) (by decide),fun H2 s2 =>?_⟩
 have Ff:=s1.trans s2
 refine⟨_,rfl,?_⟩
 cases hb:cT (fH d) with
 | false=>
  have z:=q H2 Ff
  rw[show cZ ns d=false by unfold cZ;rw[hb,Yh]] at z
  exact bK (bK z)
 | true=>
  obtain⟨eb,ok⟩:=zg hb
  have fl:=fit.pJ (match fH d with | .list ds=>ds|_=>[]) (by rw[eb];rfl)
  have d2:=d1.same s2
  rw[eb] at d2
  have bl:(cy (fH d)).length<=60:=by
   rw[eb] at fl
   have:((cy (fH d)).map fun q=>PyData.tuple [.str q.1,.str q.2]).length<=60:=fl
   rw[Jc] at this
   exact this
  have wt:(aI (cy (fH d))).weight<=300000:=by rw[<-eb,xh];exact fit.wt
  have V8:Pz (aI (cy (fH d)))=true:=by rw[<-eb];exact L7 fit.pz
  have fb:cZ ns d=(decide (((cy (fH d)).map (·.1)).Perm ns)&&uD (cy (fH d))):=by unfold cZ;rw[hb,U2]
  have cd:=fit.cd
  generalize cy (fH d)=bk at d2 bl wt fb ok V8 cd
  rw[fb] at q
  refine bF ?_
  obtain⟨a,us,rfl,hS,hul,hds⟩:=LD d2
  have pz:Pz (aI bk)=true:=V8
  have az:∀x∈bk.map (·.1),jo x=true:=fun x hx=>by
   obtain⟨q0,hq0,rfl⟩:=Uh.mp hx
   have h1:Fm (bk.map fun q=>PyData.tuple [.str q.1,.str q.2])=true:=by simpa only [aI,Pz] using pz
   have h2:=sN.mp h1 _ (Uh.mpr ⟨q0,hq0,rfl⟩)
   simp only[Pz,Fm,Jx] at h2
   exact h2.1
  have small:∀{n:Nat},n<=10000->n<sizeLine:=fun h=>J1 h (by decide)
  refine⟨_,rfl,a,rfl,⟨_,hS⟩,?_⟩
  refine dh (N:=bk.length) (fun i ys H'=>ao H2 H'/\ys=((bk.take i).map (·.1)).map V.str) ⟨ao.refl _,rfl⟩ ?_ ?_
  ·rintro i ys H3 Ny hi ⟨s3,rfl⟩ ny
   obtain⟨b,Cg,hT⟩:=hds i bk[i] (Jd hi)
   refine⟨⟨_,_,s3.seq hS,Cg⟩,small (by rw[Jc,Jc,Uq];omega),?_⟩
   rintro x' H4 ⟨rfl,hy⟩
   have e:=hy _ (s3.seq hS)
   rw[Cg] at e;cases e
   refine⟨b,_,rfl,s3.bU hT,rfl,_,_,rfl,gn ⟨_,_,rfl,gn ⟨rfl,_,rfl,ny _ _ ⟨s3,?_⟩⟩⟩⟩
   rw[U3 hi,Jy,Jy]
   rfl
  ·rintro ys H3 ⟨s3,rfl⟩
   refine⟨⟨_,s3.seq hS,by rw[hul];exact Je _⟩,fun pv hp =>?_⟩
   rw[Y3]
   have ME:ao H2 (upd H3 pv (.lst ((bk.map (·.1)).map V.str))):=s3.trans (bD hp _)
   refine⟨pv,bk.map (·.1),rfl,.inl (bb.of ay),by rw[Jc];omega,fun ms q1 H4 pm so n4 =>?_⟩
   have s4:=ME.trans n4.same
   refine⟨_,rfl,p,ns,rfl,QB.imp (Ff.trans s4).seq (Ff.trans s4).bU,nl,fun ms2 q2 H5 E5 so2 n5 =>.inr ⟨.list (ms.map .str),.list (ms2.map .str),Den.list (bb.of (n5.same _ _ n4.at)) (Den.strs _),Den.list (bb.of n5.at) (Den.strs _),EL fun x hx=>az x (pm.mem_iff.mp hx),EL fun x hx=>na x (E5.mem_iff.mp hx),?_⟩⟩
   have s5:=s4.trans n5.same
   have ev:PyData.eqv (.list (ms.map .str)) (.list (ms2.map .str))=decide (ms=ms2):=by simp only[PyData.eqv];exact vB ms ms2
   rw[ev]
   by_cases e:ms=ms2
   ·have pp:(bk.map (·.1)).Perm ns:=pm.symm.trans (by rw[e];exact E5)
    rw[show decide ((bk.map (·.1)).Perm ns)=true from decide_eq_true pp,U2] at q
    rw[decide_eq_true e]
    refine⟨_,rfl,bF ⟨_,rfl,.ref a,bk,rfl,d2.same s5,by omega,cd,fun fr H6 s6 =>?_,fun fr H6 s6 =>?_⟩⟩
    ·have z:=q H6 (Ff.trans (s5.trans s6))
     rw[show uD bk=true from @decide_eq_true _ (Classical.propDecidable _) fr] at z
     exact z
    ·have z:=q H6 (Ff.trans (s5.trans s6))
     rw[show uD bk=false from @decide_eq_false _ (Classical.propDecidable _) fr] at z
     exact z
   ·have np:¬(bk.map (·.1)).Perm ns:=fun pp=>e (AF (pm.trans (pp.trans E5.symm)) so so2)
    have z:=q H5 (Ff.trans s5)
    rw[show decide ((bk.map (·.1)).Perm ns)=false from decide_eq_false np,Yh] at z
    rw[decide_eq_false e]
    exact⟨_,rfl,bK z⟩
end
noncomputable abbrev aE:List Str:=["set", "add", "take", "tell", "ask", "jump", "zero", "stop", "farjump", "farzero", "skip"]
noncomputable abbrev bP:List Str:=["a", "b", "c", "d"]
noncomputable abbrev bt:List Str:=["none", "one", "two", "three", "four", "five", "six", "seven", "eight"]
noncomputable def nA:PyData->Bool
 | .int _=>true
 | _=>false
noncomputable def eI (bk:List (Str×Str)):List (Key×V):=bk.map fun q=>((Sum.inr q.1:Key),V.str q.2)
noncomputable def aX:List (Str×Str)->Str->Str
 | [],_=>Str.empty
 | q::r,x=>if q.1=x then q.2 else aX r x
noncomputable def gh (bk:List (Str×Str))(near bB:Int):Bool:=["jump", "zero"].any fun j:String=>decide (((aX bk (Str.ofString ("far" ++ j))).length:Int)+bB<((aX bk (Str.ofString j)).length:Int)+near)
noncomputable def pq:PyData->Bool
 | .int i=>decide (2<=i)&&decide (i<=8)
 | _=>false
noncomputable def uT (d1:PyData):PyData->PyData->Bool
 | .int n,.int f=>decide (n<f)&&(decide (f<=16) && !gh (cy (fH d1)) n f)
 | _,_=>false
noncomputable def AD (d1 d4 d5:PyData):Option Str:=if pq d4=false then some "near" else if uT d1 d4 d5=false then some "far" else none
noncomputable def jW (d1 d2 d3 d4 d5:PyData):Option Str:=
 if cZ aE d1=false then some "kinds" else if cZ bP d2=false then some "spots" else if cZ bt d3=false then some "sizes" else AD d1 d4 d5
noncomputable def E3:Option Str->V
 | none =>.non
 | some x =>.str x
theorem fB:∀{bk:List (Str×Str)} {x:Str},x∈bk.map (·.1)->dU (eI bk) (.inr x)=some (.str (aX bk x))
 | q::r,x,h=>by
  show dU ((Sum.inr q.1,V.str q.2)::eI r) _=some (.str (if q.1=x then q.2 else aX r x))
  by_cases e:q.1=x
  ·rw[cx (by rw[e]),if_pos e]
  ·rw[cw (fun z=>e (Sum.inr.inj z)),if_neg e]
   refine fB ?_
   rcases Jv.mp h with z|z
   ·exact absurd z.symm e
   ·exact z
theorem yb:∀{bk:List (Str×Str)} (x:Str),(∀q∈bk,q.2.length<=200000)->(aX bk x).length<=200000
 | [],_,_=>Um _
 | q::r,x,h=>by
  unfold aX
  split
  ·exact h q Jr
  ·exact yb x fun z hz=>h z (Jo _ hz)
theorem qI:∀(kvs acc:List (Key×V)),(kvs.map (·.1)).Nodup->(∀kv∈kvs,dU acc kv.1=none)->cz acc kvs=acc++kvs
 | [],acc,_,_=>by show acc=acc++[];rw[Ym]
 | kv::kvs,acc,nd,h=>by
  rw[J0] at nd
  obtain⟨n1,n2⟩:=U9.mp nd
  show cz (putK acc kv.1 kv.2) kvs=_
  rw[CT _ (h kv Jr),qI kvs _ n2 fun kw hw =>?_]
  ·rw[List.append_assoc];rfl
  ·rw[lK _ _ _ _ (h kv Jr),if_neg (fun z=>n1 (by rw[<-z];exact Yx hw))]
   exact h kw (Jo _ hw)
theorem eJ {bk:List (Str×Str)}(h:(bk.map (·.1)).Nodup):cz [] (eI bk)=eI bk:=by
 have nd:((eI bk).map (·.1)).Nodup:=by
  unfold eI
  rw[U0]
  refine List.pairwise_map.mpr ((List.pairwise_map.mp h).imp fun{a b} z e=>z (Sum.inr.inj e))
 rw[qI _ _ nd fun kv _=>rfl]
 rfl
theorem sE {K:Ja}{H:Hp}{bk:List (Str×Str)}{us:List V}(h:aN K H (bk.map fun q =>.tuple [.str q.1,.str q.2]) us):∃as:List Addr,us=as.map V.ref/\as.length=bk.length/\∀(j:Nat) b (kv:Key×V),as[j]? = some b->(eI bk)[j]? = some kv->br K H b [kV kv.1,kv.2]:=by
 induction bk generalizing us with
 | nil=>
  unfold aN at h
  subst h
  exact⟨[],rfl,rfl,fun j b kv e=>nomatch e⟩
 | cons q bk ih=>
  rw[J0] at h
  unfold aN at h
  obtain⟨v,r,rfl,hd,h⟩:=h
  obtain⟨as,rfl,hl,hk⟩:=ih h
  unfold Den at hd
  obtain⟨b,vs,rfl,hT,hd⟩:=hd
  unfold aN at hd
  obtain⟨x,r,rfl,hx,hd⟩:=hd
  unfold aN at hd
  obtain⟨y,r,rfl,hy,hd⟩:=hd
  unfold aN at hd
  unfold Den at hx hy
  subst hd hx hy
  refine⟨b::as,rfl,by rw[Jn,Jn,hl],fun j c kv e1 e2 =>?_⟩
  cases j with
  | zero=>cases e1;cases e2;exact hT
  | succ j=>exact hk j c kv e1 e2
theorem mO {K:Ja}{H:Hp}{d:PyData}{bk:List (Str×Str)}{v:V}(h:Den K H d v)(e:fH d=aI bk):∃(p:Addr) (as:List Addr),v = .ref p/\(bb K H p (as.map V.ref)∨br K H p (as.map V.ref))/\as.length=bk.length/\∀(j:Nat) b (kv:Key×V),as[j]? = some b->(eI bk)[j]? = some kv->br K H b [kV kv.1,kv.2]:=by
 cases d with
 | list ds=>
  have e:ds=bk.map fun q =>.tuple [.str q.1,.str q.2]:=PyData.list.inj e
  unfold Den at h
  obtain⟨p,us,rfl,hS,hd⟩:=h
  rw[e] at hd
  obtain⟨as,rfl,hl,hk⟩:=sE hd
  exact⟨p,as,rfl,.inl hS,hl,hk⟩
 | tuple ds=>
  have e:ds=bk.map fun q =>.tuple [.str q.1,.str q.2]:=PyData.list.inj e
  unfold Den at h
  obtain⟨p,us,rfl,hS,hd⟩:=h
  rw[e] at hd
  obtain⟨as,rfl,hl,hk⟩:=sE hd
  exact⟨p,as,rfl,.inr hS,hl,hk⟩
 | _=>exact absurd e (by unfold aI fH;exact fun z=>nomatch z)
def wM (K:Ja):Sp:=fun vs H Q _=>∃(v:V) (d:PyData),vs=[v]/\Den K H d v/\∀H',ao H H'->Q (.bl (nA d)) H'
def Cq (K:Ja):Sp:=fun vs H Q _=>wb fun(v:V) (d:PyData) (bk:List (Str×Str)) (n f:Int)=>vs=[v,.int n,.int f]/\Den K H d v/\fH d=aI bk/\bk.length<=60/\(∀q∈bk,q.2.length<=200000)/\(bk.map (·.1)).Nodup/\(∀x∈aE,x∈bk.map (·.1))/\∀H',ao H H'->Q (.bl (gh bk n f)) H'
section
variable {P:Program}{w:World}{K:Ja}{mg:Str->Option Value}{base:Heap}{f:Addr}{fd:FuncData}{aJ aP aS aZ:Addr}{t1 t2 t3:Tok}
theorem tR:aA ["thing"] ["thing"] (aj (top iy)):=⟨rfl,rfl,rfl,by decide +kernel,rfl,by decide +kernel,by decide +kernel⟩
theorem DN (F:bO K "is_number" "is_number" (top iy) f fd)(T:Nm mg):bh P w K mg base eP 1 f fd ["thing"] (wM K):=by
 refine F.ok tR (fun vs H Q E h =>?_) (fun cG A outer s H vs Q E hr h =>?_)
 ·obtain⟨v,d,rfl,_⟩:=h
  rfl
 obtain⟨v,d,rfl,hd,q⟩:=h
 have hq:=q H (ao.refl _)
 refine⟨_,(ag (av (eO (ax (ip K) rfl T.n_isinstance (by rfl) (aa (pv 0) (aa (bH rfl T.n_int (by rfl) (v := .ty "int") rfl) ae))) (jR (EE (ax (ip K) rfl T.n_isinstance (by rfl) (aa (pv 0) (aa (bH rfl T.n_bool (by rfl) (v := .ty "bool") rfl) ae)))))))),?_⟩
 refine⟨_,rfl,.inl ⟨_, "int",d,_,rfl,hd,(vk K d).2.1,_,rfl,?_⟩⟩
 cases d with
 | int i=>exact bK ⟨_,rfl,.inl ⟨_, "bool",.int i,_,rfl,hd,(vk K (.int i)).1,_,rfl,hq⟩⟩
 | bool i=>exact bK ⟨_,rfl,.inl ⟨_, "bool",.bool i,_,rfl,hd,(vk K (.bool i)).1,_,rfl,hq⟩⟩
 | _=>exact bF hq
theorem fL:aA ["kinds", "near", "far", "codes"] ["kinds", "near", "far"] (aj (top d6)):=⟨rfl,rfl,rfl,by decide +kernel,rfl,by decide +kernel,by decide +kernel⟩
theorem Kz (F:bO K "far_is_shorter" "far_is_shorter" (top d6) f fd)(T:Nm mg)(cA:mg "dict" = none)(ja:mg "JUMPS" = some (.ref aJ))(hJ:∀H,br K H aJ [V.str "jump",V.str "zero"]):bh P w K mg base eP 1 f fd ["kinds", "near", "far"] (Cq K):=by
 refine F.ok fL (fun vs H Q E h =>?_) (fun cG A outer s H vs Q E hr h =>?_)
 ·obtain⟨v,d,bk,n,f,rfl,_⟩:=h
  rfl
 obtain⟨v,d,bk,n,f,rfl,hd,ea,bl,cl,nd,hk,q⟩:=h
 have hu:=nP hr
 have eT:=hr.units
 obtain⟨p,as,rfl,sq,al,hT⟩:=mO hd ea
 have bn:(eI bk).length=bk.length:=by unfold eI;rw[Jc]
 refine⟨_,(af (aF (i:=3) fL.nd rfl (Or.inr rfl) (bf (tH K rfl) rfl cA (by rfl) (aa (pv 0) ae)))
  (ag (av (ax (QX K rfl) rfl T.n_any (by rfl) (aa (dG rfl (cq (Nc:=["jump"]) (Fc:=["far", "near", "codes"]) (js:=[2,1,3])) (kK K (gR rfl ja)) (bG (i:=0) (n:=1) (by decide)) (fun _ _ _ _ _=>(aD (i:=0) (qv ["jump", "far", "near", "codes"]) rfl (Or.inl rfl))) (fun _ _ _ _ _=>dg) (fun _ _ _ _ _=>(cQ l6 (aH cE (ax (ia K) rfl T.n_len (by rfl) (aa (bM hu (pv 3) (aH cE aq (pv 0)) (fun _ _=>rfl)) ae)) (pv 1)) (aH cE (ax (ia K) rfl T.n_len (by rfl) (aa (bM hu (pv 3) (pv 0) (fun _ _=>rfl)) ae)) (pv 2)) (aV _)))) ae))))),?_⟩
 refine⟨_,rfl,p,as,eI bk,rfl,sq,by rw[bn];exact al,by rw[bn];omega,hT,fun dd H1 n1=>gn ?_⟩
 rw[eJ nd] at n1
 have small:∀{n:Nat},n<=1000000->n<sizeLine:=fun h=>J1 h (by decide)
 let tst:Str->Bool:=fun j=>decide (((aX bk (Str.ofString "far" ++ j)).length:Int)+f<((aX bk j).length:Int)+n)
 have js:∀j∈(["jump", "zero"]:List Str),j∈aE/\(Str.ofString "far" ++ j)∈aE/\j.length<=10:=by decide +kernel
 refine⟨aJ,rfl,⟨_,hJ _⟩,?_⟩
 refine dh (N:=2) (fun i ys H'=>ao H1 H'/\ys=(((["jump", "zero"]:List Str).take i).map tst).map V.bl) ⟨ao.refl _,rfl⟩ ?_ ?_
 ·rintro i ys H2 Ny hi ⟨s2,rfl⟩ ny
  have VE:([V.str "jump",V.str "zero"]:List V)[i]? = some (.str ((["jump", "zero"]:List Str)[i])):=by
   match i,hi with
   | 0,_=>rfl
   | 1,_=>rfl
  refine⟨⟨_,_,hJ _,VE⟩,small (by rw[Jc,Jc,Uq];omega),?_⟩
  rintro x' H3 ⟨rfl,hy⟩
  have e:=hy _ (hJ _)
  rw[VE] at e;cases e
  obtain⟨j,hj⟩:∃j,j=(["jump", "zero"]:List Str)[i]:=⟨_,rfl⟩
  have jm:=js j (by rw[hj];exact Ub _)
  rw[<-hj]
  refine gn ?_
  have h2:=s2 _ _ n1.at
  have gd:∀{Hx:Hp},Hx dd=some (.dK (eI bk))->∀x,x∈aE->dz Hx dd (.str x) (some (.str (aX bk x))):=fun h x hx=>by
   rw[<-fB (hk x hx)]
   exact dz.k (k := .inr x) h
  have l1:=yb (Str.ofString "far" ++ j) cl
  have l2:=yb j cl
  have lf:(Str.ofString "far").length=3:=rfl
  have sz:∀{x:Str},x.length<=200000->x.length<=sizeLine:=fun h=>Jh h (by decide)
  refine⟨_,rfl,_,rfl,.inr (.inl ⟨_,_,rfl,rfl,U8 (small (by rw[lf];omega)),dd,_,rfl,gd h2 _ jm.2.1,?_⟩)⟩
  refine⟨_,_,rfl,⟨sz l1,rfl⟩,_,rfl,.inl ⟨_,_,rfl,rfl,?_⟩⟩
  refine⟨_,rfl,_,rfl,dd,_,rfl,gd h2 _ jm.1,_,_,rfl,⟨sz l2,rfl⟩,_,rfl,.inl ⟨_,_,rfl,rfl,_,_,rfl,rfl,ny _ _ ⟨s2,?_⟩⟩⟩
  rw[U3 (show i<(["jump", "zero"]:List Str).length from hi),Jy,Jy,hj]
  rfl
 ·rintro ys H2 ⟨s2,rfl⟩
  refine⟨⟨_,hJ _,Je _⟩,fun pv hp=>⟨pv,_,rfl,bb.of ay,?_⟩⟩
  exact q _ (n1.same.trans (s2.trans (bD hp _)))
end
noncomputable def Ic:PyData->PyData
 | .list ds =>.tuple ds
 | d=>d
structure vb (K:Ja)(H:Hp)(v1 v2 v3 v4 v5:V)(d1 d2 d3 d4 d5:PyData):Prop where
 e1:Den K H d1 v1
 e2:Den K H d2 v2
 e3:Den K H d3 v3
 e4:Den K H d4 v4
 e5:Den K H d5 v5
 f1:II d1
 f2:II d2
 f3:II d3
theorem vb.same {K:Ja}{H H':Hp}{v1 v2 v3 v4 v5:V}{d1 d2 d3 d4 d5:PyData}(h:vb K H v1 v2 v3 v4 v5 d1 d2 d3 d4 d5)(s:ao H H'):vb K H' v1 v2 v3 v4 v5 d1 d2 d3 d4 d5:=⟨h.e1.same s,h.e2.same s,h.e3.same s,h.e4.same s,h.e5.same s,h.f1,h.f2,h.f3⟩
structure Pf (K:Ja)(P:Program)(w:World)(mg:Str->Option Value)(aP aS aZ:Addr)(t1 t2 t3:Tok):Prop where
 gP:mg "PARTS" = some (.ref aP)
 gS:mg "SPOT_NAMES" = some (.ref aS)
 gZ:mg "SIZE_NAMES" = some (.ref aZ)
 P:m7 fun es n kvs=>yX K P w aP es n kvs/\kvs.map (·.1)=aE
 S:∀H,br K H aS (bP.map V.str)
 Z:∀H,br K H aZ (bt.map V.str)
 vl:mg "LEAST_NEAR" = some (.int 2 t1)
 vm:mg "MOST_NEAR" = some (.int 8 t2)
 vf:mg "MOST_FAR" = some (.int 16 t3)
def KY (K:Ja):Sp:=fun vs H Q _=>∃(v1 v2 v3 v4 v5:V) (d1 d2 d3 d4 d5:PyData),vs=[v1,v2,v3,v4,v5]/\vb K H v1 v2 v3 v4 v5 d1 d2 d3 d4 d5/\∀H',ao H H'->Q (E3 (jW d1 d2 d3 d4 d5)) H'
theorem Dv {d:PyData}(h:nA d=false):pq d=false:=by cases d<;>first|rfl|cases h
theorem zK {d:PyData}(h:nA d=true):∃i,d = .int i:=by cases d<;>first|exact⟨_,rfl⟩|cases h
theorem lM:(∀x∈aE,jo x=true)/\(∀x∈bP,jo x=true)/\∀x∈bt,jo x=true:=by decide +kernel
theorem cv:aE.Nodup:=by decide +kernel
section
variable {P:Program}{w:World}{K:Ja}{mg:Str->Option Value}{base:Heap}{f:Addr}{fd:FuncData}{aP aS aZ:Addr}{t1 t2 t3:Tok}
theorem oU:aA ["kinds", "spots", "sizes", "near", "far"] ["kinds", "spots", "sizes", "near", "far"] (aj (top fU)):=⟨rfl,rfl,rfl,by decide +kernel,rfl,by decide +kernel,by decide +kernel⟩
theorem OW (F:bO K "first_wrong" "first_wrong" (top fU) f fd)(T:Nm mg)(M:Pf K P w mg aP aS aZ t1 t2 t3)(dF:Fn P w K mg base 5 "is_free_book_of" ["thing", "names"] (DB K))(mw:Fn P w K mg base 1 "is_number" ["thing"] (wM K))(kY:Fn P w K mg base 1 "far_is_shorter" ["kinds", "near", "far"] (Cq K)):bh P w K mg base eP 6 f fd ["kinds", "spots", "sizes", "near", "far"] (KY K):=by
 refine F.ok oU (fun vs H Q E h =>?_) (fun cG A outer s H vs Q E hr h =>?_)
 ·obtain⟨v1,v2,v3,v4,v5,d1,d2,d3,d4,d5,rfl,_⟩:=h
  rfl
 obtain⟨v1,v2,v3,v4,v5,d1,d2,d3,d4,d5,rfl,D,q⟩:=h
 have eT:=hr.units
 have sD:=M.gP
 have tL:=M.gS
 have dA:=M.gZ
 have kE:=M.vl
 have l8:=M.vm
 have oH:=M.vf
 obtain⟨es,n,kvs,KD,ek⟩:=M.P
 refine⟨_,(af (bA (dN (cf (aB (dF.mono (by decide)) hr rfl (aa (pv 0) (aa (bf (L9 rfl) rfl T.n_list (by rfl) (aa (gR rfl sD) ae)) ae))))) (ag (av aq)) aM)
  (af (bA (dN (cf (aB (dF.mono (by decide)) hr rfl (aa (pv 1) (aa (gR rfl tL) ae))))) (ag (av aq)) aM)
  (af (bA (dN (cf (aB (dF.mono (by decide)) hr rfl (aa (pv 2) (aa (gR rfl dA) ae))))) (ag (av aq)) aM)
  (af (bA (PW.pt (lW (dN (cf (aB (mw.mono (by decide)) hr rfl (aa (pv 3) ae)))) (jV (dN (vn my my (kB rfl kE) (pv 3) (kB rfl l8)))))) (ag (av aq)) aM)
  (af (bA (PW.pt (lW (dN (cf (aB (mw.mono (by decide)) hr rfl (aa (pv 4) ae)))) (lW (dN (vn l6 my (pv 3) (pv 4) (kB rfl oH))) (jV (cf (aB (kY.mono (by decide)) hr rfl (aa (pv 0) (aa (pv 3) (aa (pv 4) ae))))))))) (ag (av aq)) aM)
  (ag (av fz))))))),?_⟩
 refine⟨_,rfl,aP,es,n,kvs,rfl,KD,by have:=congrArg List.length ek;rw[Jc] at this;rw[this];decide,fun p H1 n1 =>?_⟩
 rw[ek] at n1
 refine⟨v1,d1,p,aE,rfl,D.e1.same n1.same,D.f1,.inl (bb.of n1.at),by decide,lM.1,fun H2 s2=>⟨_,rfl,?_⟩⟩
 have Ff:=n1.same.trans s2
 have D2:=D.same Ff
 have wy:∀{y:Option Str},jW d1 d2 d3 d4 d5=y->∀H',ao H H'->Q (E3 y) H':=fun e H' sm=>by rw[<-e];exact q H' sm
 cases h1:cZ aE d1 with
 | false=>exact bK (wy (if_pos h1) _ Ff)
 | true=>
 have Vw:¬cZ aE d1=false:=by rw[h1];decide
 refine bF ?_
 dsimp only[bZ]
 refine⟨_,rfl,v2,d2,aS,bP,rfl,D2.e2,D2.f2,.inr (M.S _),by decide,lM.2.1,fun H3 s3=>⟨_,rfl,?_⟩⟩
 have zd:=Ff.trans s3
 have D3:=D.same zd
 cases h2:cZ bP d2 with
 | false=>exact bK (wy ((if_neg Vw).trans (if_pos h2)) _ zd)
 | true=>
 have VF:¬cZ bP d2=false:=by rw[h2];decide
 refine bF ?_
 dsimp only[bZ]
 refine⟨_,rfl,v3,d3,aZ,bt,rfl,D3.e3,D3.f3,.inr (M.Z _),by decide,lM.2.2,fun H4 s4=>⟨_,rfl,?_⟩⟩
 have Fi:=zd.trans s4
 have D4:=D.same Fi
 cases h3:cZ bt d3 with
 | false=>exact bK (wy ((if_neg Vw).trans ((if_neg VF).trans (if_pos h3))) _ Fi)
 | true=>
 have ZG:¬cZ bt d3=false:=by rw[h3];decide
 have wy:∀{y:Option Str},AD d1 d4 d5=y->∀H',ao H H'->Q (E3 y) H':=fun e H' sm=>wy ((if_neg Vw).trans ((if_neg VF).trans ((if_neg ZG).trans e))) H' sm
 refine bF ?_
 dsimp only[bZ]
 refine⟨_,rfl,v4,d4,rfl,D4.e4,fun H5 s5=>⟨_,rfl,?_⟩⟩
 have Fj:=Fi.trans s5
 have D5:=D.same Fj
 cases hd4:nA d4 with
 | false=>exact bK (bK (wy (if_pos (Dv hd4)) _ Fj))
 | true=>
 obtain⟨i,rfl⟩:=zK hd4
 have e4:v4 = .int i:=by have:=D.e4;unfold Den at this;exact this
 subst e4
 refine bF ?_
 have nF:¬(2<=i/\i<=8)->AD d1 (.int i) d5=some "near":=fun h=>if_pos (by
  show(decide (2<=i)&&decide (i<=8))=false
  rw[Bool.and_eq_false_iff]
  by_cases z:2<=i
  ·exact .inr (decide_eq_false fun y=>h ⟨z,y⟩)
  ·exact .inl (decide_eq_false z))
 refine⟨_,rfl,_,_,rfl,rfl,_,rfl,eU (fun c1 =>?_) (fun c1=>⟨_,rfl,bK (wy (nF fun z=>c1 (decide_eq_true z.1)) _ Fj)⟩)⟩
 have c1:2<=i:=of_decide_eq_true c1
 refine⟨_,_,rfl,rfl,_,rfl,?_⟩
 by_cases c2:i<=8
 case neg=>
  rw[decide_eq_false c2]
  exact bK (wy (nF fun z=>c2 z.2) _ Fj)
 rw[decide_eq_true c2]
 refine bF ?_
 dsimp only[bZ]
 have wy:∀{y:Option Str},(if uT d1 (.int i) d5=false then some (Str.ofString "far") else none)=y->∀H',ao H H'->Q (E3 y) H':=fun e H' sm=>wy ((if_neg (by
  show ¬(decide (2<=i)&&decide (i<=8))=false
  rw[decide_eq_true c1,decide_eq_true c2];decide)).trans e) H' sm
 refine⟨_,rfl,v5,d5,rfl,D5.e5,fun H6 s6=>⟨_,rfl,?_⟩⟩
 have Fa:=Fj.trans s6
 have D6:=D.same Fa
 cases QK:nA d5 with
 | false=>exact bK (bK (wy (if_pos (by cases d5<;>first|rfl|cases QK)) _ Fa))
 | true=>
 obtain⟨j,rfl⟩:=zK QK
 have e5:v5 = .int j:=by have:=D.e5;unfold Den at this;exact this
 subst e5
 refine bF ?_
 have nG:¬(i<j/\j<=16/\gh (cy (fH d1)) i j=false)->uT d1 (.int i) (.int j)=false:=fun h=>by
  show(decide (i<j)&&(decide (j<=16) && !gh (cy (fH d1)) i j))=false
  by_cases z:i<j
  ·by_cases y:j<=16
   ·rw[decide_eq_true z,decide_eq_true y]
    cases e:gh (cy (fH d1)) i j with
    | true=>rfl
    | false=>exact absurd ⟨z,y,e⟩ h
   ·rw[decide_eq_true z,decide_eq_false y];rfl
  ·rw[decide_eq_false z];rfl
 refine⟨_,rfl,_,rfl,_,_,rfl,rfl,_,rfl,eU (fun c3 =>?_) (fun c3=>⟨_,rfl,bK (bK (wy (if_pos (nG fun z=>c3 (decide_eq_true z.1))) _ Fa))⟩)⟩
 have c3:i<j:=of_decide_eq_true c3
 refine⟨_,_,rfl,rfl,_,rfl,?_⟩
 by_cases c4:j<=16
 case neg=>
  rw[decide_eq_false c4]
  exact bK (bK (wy (if_pos (nG fun z=>c4 z.2.1)) _ Fa))
 rw[decide_eq_true c4]
 refine bF ?_
 have bo:cT (fH d1)=true/\((cy (fH d1)).map (·.1)).Perm aE:=by
  have z:=h1
  unfold cZ at z
  rw[Jx,Jx] at z
  exact⟨z.1,of_decide_eq_true z.2.1⟩
 obtain⟨eb,_⟩:=zg bo.1
 have pJ:=bo.2.length_eq
 rw[Jc] at pJ
 refine⟨_,rfl,_,rfl,_,rfl,v1,d1,cy (fH d1),i,j,rfl,D6.e1,eb,by rw[pJ];decide,D.f1.cd,bo.2.nodup_iff.mpr cv,fun x hx=>bo.2.mem_iff.mpr hx,fun H7 s7=>⟨_,rfl,?_⟩⟩
 have MB:=Fa.trans s7
 cases hf:gh (cy (fH d1)) i j with
 | true=>exact bK (wy (if_pos (nG fun z=>by rw[hf] at z;exact absurd z.2.2 (by decide))) _ MB)
 | false=>
  refine bF ?_
  dsimp only[bZ]
  refine wy (if_neg ?_) _ MB
  show ¬(decide (i<j)&&(decide (j<=16) && !gh (cy (fH d1)) i j))=false
  rw[decide_eq_true c3,decide_eq_true c4,hf];decide
end
end Z
namespace L2
open PySem
theorem kD (K:Ja){X:Cx}{e:Expr}{f:Str}{pos:Pos}{ta:TE}(he:PE X e ta)(hb:attributeBase e f X.env (eval e X.env)=eval e X.env)(hK:X.K=K:=by rfl):PE X (.Attribute e f pos) (NU K ta f):=by subst hK;exact LV he hb
end L2
namespace Z
open PySem L2
structure Hj (K:Ja)(CF:Addr):Prop where
 c:IK K CF
 n1:fC K CF "kinds"
 n2:fC K CF "spots"
 n3:fC K CF "sizes"
 n4:fC K CF "near"
 n5:fC K CF "far"
def ik (K:Ja)(CF:Addr)(H:Hp)(m:Addr)(d1 d2 d3 d4 d5:PyData):Prop:=Ch fun(dx:Addr) (w1 w2 w3 w4 w5:V)=>H m=some (.ins CF dx [("kinds",w1),("spots",w2),("sizes",w3),("near",w4),("far",w5)]) /\
 Den K H (Ic d1) w1/\Den K H (Ic d2) w2/\Den K H (Ic d3) w3/\Den K H d4 w4/\Den K H d5 w5
theorem ik.same {K:Ja}{CF:Addr}{H H':Hp}{m:Addr}{d1 d2 d3 d4 d5:PyData}(h:ik K CF H m d1 d2 d3 d4 d5)(s:ao H H'):ik K CF H' m d1 d2 d3 d4 d5:=by
 obtain⟨dx,w1,w2,w3,w4,w5,e,h1,h2,h3,h4,h5⟩:=h
 exact⟨dx,w1,w2,w3,w4,w5,s _ _ e,h1.same s,h2.same s,h3.same s,h4.same s,h5.same s⟩
def Ow (K:Ja)(CF C:Addr):Sp:=fun vs H Q E=>dS fun(H0:Hp) (m:Addr)=>Ch fun dx v1 v2 v3 v4 v5=>wb fun d1 d2 d3 d4 d5=>vs=[.ref m,v1,v2,v3,v4,v5]/\ao H0 H/\H0 m=none/\H m=some (.ins CF dx [])/\vb K H0 v1 v2 v3 v4 v5 d1 d2 d3 d4 d5 /\
 (jW d1 d2 d3 d4 d5=none->∀H',ao H0 H'->ik K CF H' m d1 d2 d3 d4 d5->Q .non H') /\
 (∀y,jW d1 d2 d3 d4 d5=some y->∀ex H',ao H0 H'->H' ex=some (.xd [("why",.str y)])->E (.ref C) (some ex) H')
theorem yG {H:Hp}{m:Addr}:ao (pI H m) H:=fun a o e=>by
 by_cases z:a=m
 ·rw[z,fe] at e;cases e
 ·rw[cJ z] at e;exact e
theorem vS {H H':Hp}{m:Addr}(s:ao H H'):ao (pI H m) (pI H' m):=fun a o e=>by
 by_cases z:a=m
 ·rw[z,fe] at e;cases e
 ·rw[cJ z] at e ⊢;exact s _ _ e
theorem mJ {H:Hp}{m:Addr}{o:HO}:pI (upd H m o) m=pI H m:=by
 funext a
 by_cases z:a=m
 ·rw[z,fe,fe]
 ·rw[cJ z,cJ z,ak z]
theorem zo {H0 H:Hp}{m:Addr}(s:ao H0 H)(n:H0 m=none):ao H0 (pI H m):=fun a o e=>by
 rw[cJ (aw e n)];exact s _ _ e
theorem rF {ns:List Str}{d:PyData}(h:cZ ns d=true):∃ds,d = .list ds∨d = .tuple ds:=by
 unfold cZ at h
 rw[Jx] at h
 cases d with
 | list ds=>exact⟨ds,.inl rfl⟩
 | tuple ds=>exact⟨ds,.inr rfl⟩
 | _=>exact absurd h.1 (by unfold fH cT;exact fun z=>nomatch z)
theorem xU {d1 d2 d3 d4 d5:PyData}(h:jW d1 d2 d3 d4 d5=none):cZ aE d1=true/\cZ bP d2=true/\cZ bt d3=true:=by
 unfold jW at h
 cases h1:cZ aE d1 with
 | false=>rw[if_pos h1] at h;cases h
 | true=>
  rw[if_neg (by rw[h1];decide)] at h
  cases h2:cZ bP d2 with
  | false=>rw[if_pos h2] at h;cases h
  | true=>
   rw[if_neg (by rw[h2];decide)] at h
   cases h3:cZ bt d3 with
   | false=>rw[if_pos h3] at h;cases h
   | true=>exact⟨rfl,rfl,rfl⟩
theorem xi {K:Ja}{H:Hp}{m:Addr}{o:HO}{d:PyData}{v:V}{Q:VK}{σ:St}{i:Nat}(hv: σ[i]? = some (some v))(hm:H m=some o)(hd:Den K (pI H m) d v)(hs:∃ds,d = .list ds∨d = .tuple ds)
  (k:∀w H',ao (pI H m) (pI H' m)->H' m=some o->Den K (pI H' m) (Ic d) w->Q w H'):QW (fun xs H Q=>∃p ys,xs=[.ref p]/\((bb K H p ys/\∀l H',gX H l (.tup ys) H'->Q (.ref l) H')∨(br K H p ys/\Q (.ref p) H))) (y6 (Dw i) B8) σ H Q:=by
 refine⟨_,hv,?_⟩
 obtain⟨ds,rfl|rfl⟩:=hs
 ·unfold Den at hd
  obtain⟨p,us,rfl,hS,hD⟩:=hd
  refine⟨p,us,rfl,.inl ⟨yG.seq hS,fun l H' n =>?_⟩⟩
  have nl:l≠m:=fun z=>by have:=n.nn;rw[z,hm] at this;cases this
  refine k _ _ (vS n.same) (n.same _ _ hm) ?_
  show Den K (pI H' m) (.tuple ds) (.ref l)
  unfold Den
  exact⟨l,us,rfl,br.of (by rw[cJ nl];exact n.at),hD.same (vS n.same)⟩
 ·have C2:=hd
  unfold Den at C2
  obtain⟨p,us,rfl,hS,hD⟩:=C2
  exact⟨p,us,rfl,.inr ⟨yG.bU hS,k _ _ (ao.refl _) hm hd⟩⟩
section
variable {P:Program}{w:World}{K:Ja}{mg:Str->Option Value}{base:Heap}{f fi:Addr}{fd Ml:FuncData}{C CF:Addr}
theorem pZ:aA ["self", "why"] ["self", "why"] (aj (inClass (top gw) 0)):=⟨rfl,rfl,rfl,by decide +kernel,rfl,by decide +kernel,by decide +kernel⟩
def zQ (C:Addr)(f:Str):Sp:=fun vs H Q _=>∃(e:Addr) (v:V),vs=[.ref e,v]/\H e=some (vU e C)/\∀dx,H dx=none->dx≠e->Q .non (upd (upd H e (Bp e C dx)) dx (.xd [(f,v)]))
theorem pK (F:bO K "__init__" "NoForm.__init__" (inClass (top gw) 0) f fd)(S:nz K C "why"):bh P w K mg base eP 1 f fd ["self", "why"] (zQ C "why"):=by
 refine F.ok pZ (fun vs H Q E h =>?_) (fun cG A outer s H vs Q E hr h =>?_)
 ·obtain⟨e,v,rfl,_⟩:=h
  rfl
 obtain⟨e,v,rfl,he,q⟩:=h
 refine⟨_,(ag (zI (pv 0) (pv 1) rfl)),?_⟩
 exact⟨_,rfl,_,rfl,e,C,rfl,he,S,fun dx h1 h2=>q dx h1 h2⟩
theorem kc:aA ["self", "kinds", "spots", "sizes", "near", "far", "why"] ["self", "kinds", "spots", "sizes", "near", "far"] (aj (inClass (top ly) 0)):=⟨rfl,rfl,rfl,by decide +kernel,rfl,by decide +kernel,by decide +kernel⟩
theorem MZ (F:bO K "__init__" "Form.__init__" (inClass (top ly) 0) f fd)(T:Nm mg)(MF:Hj K CF)(nJ:mg "NoForm" = some (.ref C))(oY:Lq K C fi)(o7:bh P w K mg base eP 1 fi Ml ["self", "why"] (zQ C "why"))(nK:Binds K Ml ["self", "why"] [])(pW:Fn P w K mg base 6 "first_wrong" ["kinds", "spots", "sizes", "near", "far"] (KY K)):
  bh P w K mg base (pO P w base) 7 f fd ["self", "kinds", "spots", "sizes", "near", "far"] (Ow K CF C):=by
 refine F.Pc kc (fun vs H Q E h =>?_) (fun cG A outer s H vs Q E hr h =>?_)
 ·obtain⟨H0,m,dx,v1,v2,v3,v4,v5,d1,d2,d3,d4,d5,rfl,_⟩:=h
  rfl
 obtain⟨H0,m,dx,v1,v2,v3,v4,v5,d1,d2,d3,d4,d5,rfl,sm,nm,hm,D,qY,qN⟩:=h
 have eT:=hr.units
 refine⟨_,(af (aF (i:=6) kc.nd rfl (Or.inl rfl) (aB (pW.mono (by decide)) hr rfl (aa (pv 1) (aa (pv 2) (aa (pv 3) (aa (pv 4) (aa (pv 5) ae)))))))
  (af (bA (aQ si (pv 6) fz (aV _)) (ag (qB (k:=1) oY o7 (hr.mono (by decide)) rfl nJ nK (aa (pv 6) ae))) aM)
  (af (pj (pv 0) (bf (oG K) rfl T.n_tuple (by rfl) (aa (pv 1) ae)) rfl)
  (af (pj (pv 0) (bf (oG K) rfl T.n_tuple (by rfl) (aa (pv 2) ae)) rfl)
  (af (pj (pv 0) (bf (oG K) rfl T.n_tuple (by rfl) (aa (pv 3) ae)) rfl)
  (af (pj (pv 0) (pv 4) rfl)
  (ag (pj (pv 0) (pv 5) rfl)))))))),?_⟩
 have nb:∀{Hx:Hp} {a:Addr},ao H Hx->Hx a=none->H a=none:=fun{Hx a} s h=>by
  cases e:H a with
  | none=>rfl
  | some o=>rw[s _ _ e] at h;cases h
 refine⟨_,rfl,_,rfl,_,rfl,_,rfl,_,rfl,v1,v2,v3,v4,v5,d1,d2,d3,d4,d5,rfl,D.same sm,fun H1 s1=>gn ?_⟩
 have RV:=sm.trans s1
 refine⟨_,rfl,.inl ⟨rfl,?_⟩⟩
 cases hw:jW d1 d2 d3 d4 d5 with
 | some y=>
  refine⟨_,rfl,bK ?_⟩
  refine⟨_,rfl,by show 1<=1000;decide,fun e he=>⟨e,.str y,rfl,ay,fun dx c1 c2=>⟨rfl,e,dx,rfl,?_,nb s1 he,?_⟩⟩⟩
  ·rw[ak (Ne.symm c2),ay]
  ·refine qN y hw dx _ (fun a o z =>?_) ?_
   ·have z1:=RV _ _ z
    have na:a≠e:=aw z1 he
    have nd:a≠dx:=fun y=>by
     rw[ak c2,<-y,z1] at c1
     cases c1
    rw[cJ na,ak nd,ak na,ak na]
    exact z1
   ·rw[cJ c2,ay]
 | none=>
  refine⟨_,rfl,bF ?_⟩
  obtain⟨o1,o2,o3⟩:=xU hw
  have D1:=D.same (zo RV nm)
  dsimp only[bZ]
  unfold GZ Ol
  dsimp only
  refine xi (by rfl) (s1 _ _ hm) D1.e1 (rF o1) fun w1 H2 s2 m2 t1 =>?_
  refine⟨_,rfl,m,CF,dx,_,rfl,m2,MF.c,MF.n1,by show 0<1000;decide,?_⟩
  refine xi (by rfl) ay (mJ▸D1.e2.same s2) (rF o2) fun w2 H3 s3 m3 t2 =>?_
  rw[mJ] at s3
  refine⟨_,rfl,m,CF,dx,_,rfl,m3,MF.c,MF.n2,by show 1<1000;decide,?_⟩
  refine xi (by rfl) ay (mJ▸D1.e3.same (s2.trans s3)) (rF o3) fun w3 H4 s4 m4 t3 =>?_
  rw[mJ] at s4
  refine⟨_,rfl,m,CF,dx,_,rfl,m4,MF.c,MF.n3,by show 2<1000;decide,?_⟩
  refine⟨_,rfl,_,rfl,m,CF,dx,_,rfl,ay,MF.c,MF.n4,by show 3<1000;decide,?_⟩
  refine⟨_,rfl,_,rfl,m,CF,dx,_,rfl,ay,MF.c,MF.n5,by show 4<1000;decide,?_⟩
  have Fi:=s2.trans (s3.trans s4)
  have fin:∀{Hx:Hp},ao (pI Hx m) (pI H4 m)->∀{o p q:HO},ao (pI Hx m) (upd (upd (upd H4 m o) m p) m q):=fun{Hx} h {o p q}=>h.trans fun a u e=>by
   have na:a≠m:=fun y=>by rw[y,fe] at e;cases e
   rw[cJ na] at e
   rw[ak na,ak na,ak na]
   exact e
  refine qY hw _ ?_ ⟨dx,w1,w2,w3,v4,v5,?_,?_,?_,?_,?_,?_⟩
  ·exact fun a o e=>by
    have z:=((zo RV nm).trans Fi) _ _ e
    have na:a≠m:=fun y=>by rw[y,nm] at e;cases e
    rw[cJ na] at z
    rw[ak na,ak na,ak na]
    exact z
  ·exact ay
  ·exact t1.same (fin (s3.trans s4))
  ·exact t2.same (fin s4)
  ·exact t3.same (fin (ao.refl _))
  ·exact D1.e4.same (fin Fi)
  ·exact D1.e5.same (fin Fi)
end
theorem j5 (ks:List Str)(x:Str):Dk (.str x) (ks.map V.str)=ks.contains x:=by
 unfold Dk
 rw[List.any_map,List.contains_eq_any_beq]
 congr 1
 funext y
 show Dz (.str y) (.str x)=(x==y)
 show(y==x)=(x==y)
 rw[Y4,beq_iff_eq,beq_iff_eq]
 exact eq_comm
theorem tm {x:Str}{A B:Prop}(q:A):if decide (V.str x=V.str x)=true then A else B:=by
 rw[decide_eq_true rfl];exact bK q
theorem gu {x y:Str}{A B:Prop}(q:B)(h:(x==y)=false:=by decide +kernel):if decide (V.str x=V.str y)=true then A else B:=by
 rw[decide_eq_false (fun z=>by injection z with z;rw[z,beq_self_eq_true] at h;cases h)];exact bF q
theorem Kw {ks:List Str}{x:Str}{A B:Prop}(q:B)(h:ks.contains x=false:=by decide +kernel):if (if false=true then !Dk (.str x) (ks.map V.str) else Dk (.str x) (ks.map V.str))=true then A else B:=by
 rw[if_neg Jl,j5,h];exact bF q
theorem JA {ks:List Str}{x:Str}{A B:Prop}(q:A)(h:ks.contains x=true:=by decide +kernel):if (if false=true then !Dk (.str x) (ks.map V.str) else Dk (.str x) (ks.map V.str))=true then A else B:=by
 rw[if_neg Jl,j5,h];exact bK q
theorem lS {α:Type}{l:List α}{i:Nat}(h:i<l.length):l.take (i+1)=l.take i++[l[i]]:=by
 rw[List.take_succ,Jd h];rfl
def Lb (K:Ja)(CF C:Addr):Sp:=fun vs H Q E=>Ch fun(lp:Addr) v1 v2 v3 v4 v5=>wb fun d1 d2 d3 d4 d5=>vs=[.ref lp]/\bb K H lp [v1,v2,v3,v4,v5]/\vb K H v1 v2 v3 v4 v5 d1 d2 d3 d4 d5 /\
 (jW d1 d2 d3 d4 d5=none->∀m H',ao H H'->H m=none->ik K CF H' m d1 d2 d3 d4 d5->Q (.ref m) H') /\
 (∀y,jW d1 d2 d3 d4 d5=some y->∀ex H',ao H H'->H' ex=some (.xd [("why",.str y)])->E (.ref C) (some ex) H')
def E2 (K:Ja)(CF:Addr):Sp:=fun vs H Q _=>Ch fun(lp:Addr) v1 v2 v3 v4 v5=>wb fun d1 d2 d3 d4 d5=>vs=[.ref lp]/\bb K H lp [v1,v2,v3,v4,v5]/\vb K H v1 v2 v3 v4 v5 d1 d2 d3 d4 d5/\jW d1 d2 d3 d4 d5=none /\
 ∀m H',ao H H'->H m=none->ik K CF H' m d1 d2 d3 d4 d5->Q (.ref m) H'
theorem KW {K:Ja}{CF C:Addr}{vs:List V}{H:Hp}{Q:VK}{E:XK}(h:E2 K CF vs H Q E):Lb K CF C vs H Q (fun _ _ _=>False):=by
 obtain⟨lp,v1,v2,v3,v4,v5,d1,d2,d3,d4,d5,rfl,hl,D,hw,q⟩:=h
 exact⟨lp,v1,v2,v3,v4,v5,d1,d2,d3,d4,d5,rfl,hl,D,fun _ m H' s n fo=>q m H' s n fo,fun y hy=>by rw[hw] at hy;cases hy⟩
section
variable {P:Program}{w:World}{K:Ja}{mg:Str->Option Value}{base:Heap}{f:Addr}{fd:FuncData}{C CF cO c1 c2 c3 c4 c5 c6 c7 gi:Addr}{Wx:FuncData}
theorem ve:aA ["_law_parts_here"] ["_law_parts_here"] (aj (top jI)):=⟨rfl,rfl,rfl,by decide +kernel,rfl,by decide +kernel,by decide +kernel⟩
theorem MP (F:bO K "_law_form" "_law_form" (top jI) f fd)(T:Nm mg)(Gn:Mk K CF gi)(wD:mg "Form" = some (.ref CF))(Hv:bh P w K mg base (pO P w base) 7 gi Wx ["self", "kinds", "spots", "sizes", "near", "far"] (Ow K CF C))(GI:Binds K Wx ["self", "kinds", "spots", "sizes", "near", "far"] []):
  bh P w K mg base (pO P w base) 9 f fd ["_law_parts_here"] (Lb K CF C):=by
 refine F.Pc ve (fun vs H Q E h =>?_) (fun cG A outer s H vs Q E hr h =>?_)
 ·obtain⟨lp,v1,v2,v3,v4,v5,d1,d2,d3,d4,d5,rfl,_⟩:=h
  rfl
 obtain⟨lp,v1,v2,v3,v4,v5,d1,d2,d3,d4,d5,rfl,hl,D,qY,qN⟩:=h
 have eT:=hr.units
 refine⟨_,(ag (av (Gu Gn (Hv.mono (by first|decide|exact Je _)) (hr.mono (by first|decide|exact Je _)) rfl wD GI .nil (qz (E':=E) fun _ _ _ z=>z) (aa (bp (fI K) (pv 0) ah (fun _ _=>rfl)) (aa (bp (fI K) (pv 0) ah (fun _ _=>rfl)) (aa (bp (fI K) (pv 0) ah (fun _ _=>rfl)) (aa (bp (fI K) (pv 0) ah (fun _ _=>rfl)) (aa (bp (fI K) (pv 0) ah (fun _ _=>rfl)) ae)))))))),?_⟩
 have ix:∀{i:Int} {v:V},([v1,v2,v3,v4,v5]:List V)[i.toNat]? = some v->True:=fun _=>trivial
 refine⟨_,rfl,.inl ⟨lp,_,_,v1,rfl,rfl,hl,rfl,_,rfl,.inl ⟨lp,_,_,v2,rfl,rfl,hl,rfl,_,rfl,.inl ⟨lp,_,_,v3,rfl,rfl,hl,rfl,_,rfl,.inl ⟨lp,_,_,v4,rfl,rfl,hl,rfl,_,rfl,.inl ⟨lp,_,_,v5,rfl,rfl,hl,rfl,fun x dx hx hdx ne =>?_⟩⟩⟩⟩⟩⟩
 refine⟨H,x,dx,v1,v2,v3,v4,v5,d1,d2,d3,d4,d5,rfl,(bD hdx _).trans (bD (by rw[ak (Ne.symm ne)];exact hx) _),hx,ay,D,fun e H' s fo=>⟨rfl,qY e x H' s hx fo⟩,qN⟩
end
def sT (K:Ja)(n:Nat):Sp:=fun vs H Q _=>m7 fun(v1 v2:V) (d:PyData)=>vs=[v1,v2]/\Den K H d v1/\Den K H d v2/\d.depth<n/\d.weight<=1000000/\∀H',ao H H'->Q (.bl true) H'
section
variable {P:Program}{w:World}{K:Ja}{mg:Str->Option Value}{base:Heap}{f:Addr}{fd:FuncData}
theorem tY:aA ["_law_found", "_law_due"] ["_law_found", "_law_due"] (aj (top jB)):=⟨rfl,rfl,rfl,by decide +kernel,rfl,by decide +kernel,by decide +kernel⟩
theorem GY {n:Nat}(F:bO K "_law_same" "_law_same" (top jB) f fd)(T:Nm mg)(gC:Fn P w K mg base n "_law_same" ["_law_found", "_law_due"] (sT K n)):bh P w K mg base eP (n+1) f fd ["_law_found", "_law_due"] (sT K (n+1)):=by
 refine F.ok tY (fun vs H Q E h =>?_) (fun cG A outer s H vs Q E hr h =>?_)
 ·obtain⟨v1,v2,d,rfl,_⟩:=h
  rfl
 obtain⟨v1,v2,d,rfl,d1,d2,hn,hw,q⟩:=h
 have eT:=hr.units
 refine⟨_,(af (bA (aQ JR (pv 1) fz (aV _)) (ag (av (cQ JR (pv 0) fz (aV _)))) aM)
  (af (bA (cf (ax (ip K) rfl T.n_isinstance (by rfl) (aa (pv 1) (aa (bH rfl T.n_bool (by rfl) (v := .ty "bool") rfl) ae)))) (ag (av (eO (ax (ip K) rfl T.n_isinstance (by rfl) (aa (pv 0) (aa (bH rfl T.n_bool (by rfl) (v := .ty "bool") rfl) ae))) (jR (cQ (qj K eT) (pv 0) (pv 1) (aV _)))))) aM)
  (af (bA (cf (ax (N0 K) rfl T.n_isinstance (by rfl) (aa (pv 1) (aa (fu (aa (bH rfl T.n_list (by rfl) (v := .ty "list") rfl) (aa (bH rfl T.n_tuple (by rfl) (v := .ty "tuple") rfl) ae))) ae)))) (af (bA (PW.pt (lW (aQ (JV K eT) (ax (ip K) rfl T.n_isinstance (by rfl) (aa (pv 0) (aa (bH rfl T.n_list (by rfl) (v := .ty "list") rfl) ae))) (ax (ip K) rfl T.n_isinstance (by rfl) (aa (pv 1) (aa (bH rfl T.n_list (by rfl) (v := .ty "list") rfl) ae))) (aV _)) (jV (aQ (JV K eT) (ax (ip K) rfl T.n_isinstance (by rfl) (aa (pv 0) (aa (bH rfl T.n_tuple (by rfl) (v := .ty "tuple") rfl) ae))) (ax (ip K) rfl T.n_isinstance (by rfl) (aa (pv 1) (aa (bH rfl T.n_tuple (by rfl) (v := .ty "tuple") rfl) ae))) (aV _))))) (ag (av hR)) aM)
  (af (bA (aQ (JV K eT) (ax (ia K) rfl T.n_len (by rfl) (aa (pv 0) ae)) (ax (ia K) rfl T.n_len (by rfl) (aa (pv 1) ae)) (aV _)) (ag (av hR)) aM)
  (ag (av (ax (JI K rfl) rfl T.n_all (by rfl) (aa (dG rfl (cq (Nc:=["_law_one", "_law_other"]) (Fc:=[]) (js:=[])) (rN K rfl T.n_zip (aa (pv 0) (aa (pv 1) ae))) (nQ (df (bG (i:=0) (n:=2) (by decide)) (df (bG (i:=1) (n:=2) (by decide)) ky cn et) cn (iz cn et))) (fun _ _ _ _ _=>(tupK K 2 rfl (aR (aD (i:=0) (qv ["_law_one", "_law_other"]) rfl (Or.inl rfl)) (aR (aD (i:=1) (qv ["_law_one", "_law_other"]) rfl (Or.inl rfl)) cu)))) (fun _ _ _ _ _=>dg) (fun _ _ _ _ _=>(aB (gC.mono (by first|decide|exact Je _|omega)) hr rfl (aa (pv 0) (aa (pv 1) ae))))) ae)))))) aM)
  (af (bA (cf (ax (ip K) rfl T.n_isinstance (by rfl) (aa (pv 1) (aa (bH rfl T.n_str (by rfl) (v := .ty "str") rfl) ae)))) (ag (av (eO (ax (ip K) rfl T.n_isinstance (by rfl) (aa (pv 0) (aa (bH rfl T.n_str (by rfl) (v := .ty "str") rfl) ae))) (jR (cQ (qj K eT) (pv 0) (pv 1) (aV _)))))) aM)
  (ag (av (eO (ax (ip K) rfl T.n_isinstance (by rfl) (aa (pv 0) (aa (bH rfl T.n_int (by rfl) (v := .ty "int") rfl) ae))) (eO (EE (ax (ip K) rfl T.n_isinstance (by rfl) (aa (pv 0) (aa (bH rfl T.n_bool (by rfl) (v := .ty "bool") rfl) ae)))) (jR (cQ (qj K eT) (pv 0) (pv 1) (aV _))))))))))),?_⟩
 cases d with
 | none=>
  have Cy:=d1
  have DK:=d2
  unfold Den at Cy DK
  subst Cy DK
  exact⟨_,rfl,.inl ⟨rfl,_,rfl,bK ⟨_,rfl,.inl ⟨rfl,q H (ao.refl _)⟩⟩⟩⟩
 | bool b=>
  have Cy:=d1
  have DK:=d2
  unfold Den at Cy DK
  subst Cy DK
  refine⟨_,rfl,.inl ⟨rfl,_,rfl,bF ?_⟩⟩
  refine⟨_,rfl,.inl ⟨_, "bool",.bool b,true,rfl,d2,rfl,_,rfl,bK ?_⟩⟩
  refine⟨_,rfl,.inl ⟨_, "bool",.bool b,true,rfl,d1,rfl,_,rfl,bK ⟨_,rfl,_,rfl,.inl ⟨rfl,?_⟩⟩⟩⟩
  rw[decide_eq_true rfl]
  exact q H (ao.refl _)
 | int i=>
  have Cy:=d1
  have DK:=d2
  unfold Den at Cy DK
  subst Cy DK
  refine⟨_,rfl,.inl ⟨rfl,_,rfl,bF ?_⟩⟩
  refine⟨_,rfl,.inl ⟨_, "bool",.int i,false,rfl,d2,rfl,_,rfl,bF ?_⟩⟩
  refine⟨_,rfl,by show 2<=sizeLine;decide,fun p H1 n1=>⟨_,p,["list", "tuple"],.int i,false,rfl,n1.at,d2,rfl,_,rfl,bF ?_⟩⟩
  refine⟨_,rfl,.inl ⟨_, "str",.int i,false,rfl,d2,rfl,_,rfl,bF ?_⟩⟩
  refine⟨_,rfl,.inl ⟨_, "int",.int i,true,rfl,d1,rfl,_,rfl,bK ⟨_,rfl,.inl ⟨_, "bool",.int i,false,rfl,d1,rfl,_,rfl,_,rfl,bK ⟨_,rfl,_,rfl,.inl ⟨rfl,?_⟩⟩⟩⟩⟩⟩
  rw[decide_eq_true rfl]
  exact q H1 n1.same
 | str x=>
  have Cy:=d1
  have DK:=d2
  unfold Den at Cy DK
  subst Cy DK
  refine⟨_,rfl,.inl ⟨rfl,_,rfl,bF ?_⟩⟩
  refine⟨_,rfl,.inl ⟨_, "bool",.str x,false,rfl,d2,rfl,_,rfl,bF ?_⟩⟩
  refine⟨_,rfl,by show 2<=sizeLine;decide,fun p H1 n1=>⟨_,p,["list", "tuple"],.str x,false,rfl,n1.at,d2,rfl,_,rfl,bF ?_⟩⟩
  refine⟨_,rfl,.inl ⟨_, "str",.str x,true,rfl,d2,rfl,_,rfl,bK ?_⟩⟩
  refine⟨_,rfl,.inl ⟨_, "str",.str x,true,rfl,d1,rfl,_,rfl,bK ⟨_,rfl,_,rfl,.inl ⟨rfl,?_⟩⟩⟩⟩
  rw[decide_eq_true rfl]
  exact q H1 n1.same
 | list ds=>
  have e1:=d1
  have e2:=d2
  unfold Den at e1 e2
  obtain⟨a1,vs1,rfl,s1,ds1⟩:=e1
  obtain⟨a2,vs2,rfl,s2,ds2⟩:=e2
  simp only[PyData.depth] at hn
  simp only[PyData.weight] at hw
  have Zj:=gD ds
  refine⟨_,rfl,.inl ⟨rfl,_,rfl,bF ?_⟩⟩
  refine⟨_,rfl,.inl ⟨_, "bool",.list ds,false,rfl,d2,rfl,_,rfl,bF ?_⟩⟩
  refine⟨_,rfl,by show 2<=sizeLine;decide,fun p H1 n1=>⟨_,p,["list", "tuple"],.list ds,true,rfl,n1.at,d2.same n1.same,rfl,_,rfl,bK ?_⟩⟩
  have b1:=d1.same n1.same
  have b2:=d2.same n1.same
  refine⟨_,rfl,.inl ⟨_, "list",.list ds,true,rfl,b1,rfl,_,rfl,.inl ⟨_, "list",.list ds,true,rfl,b2,rfl,.inl ⟨rfl,_,rfl,bF ?_⟩⟩⟩⟩
  refine⟨_,rfl,.inl ⟨_, "tuple",.list ds,false,rfl,b1,rfl,_,rfl,.inl ⟨_, "tuple",.list ds,false,rfl,b2,rfl,.inl ⟨rfl,_,rfl,bF ?_⟩⟩⟩⟩
  refine⟨_,rfl,_,_,rfl,.inl ⟨vs1,n1.same.seq s1,rfl⟩,_,rfl,_,_,rfl,.inl ⟨vs2,n1.same.seq s2,rfl⟩,.inl ⟨rfl,_,rfl,?_⟩⟩
  rw[decide_eq_true (show V.int (vs1.length:Nat)=V.int (vs2.length:Nat) by rw[ds1.len,ds2.len])]
  refine bF ?_
  refine⟨_,rfl,_,rfl,false,false,a1,a2,rfl,⟨_,n1.same.seq s1⟩,⟨_,n1.same.seq s2⟩,?_⟩
  refine dh (N:=ds.length) (fun i ys H'=>ao H1 H'/\ys=(Ju i true).map V.bl) ⟨ao.refl _,rfl⟩ ?_ ?_
  ·rintro i ys H2 Nx hi ⟨sm,rfl⟩ nx
   have gB:=n1.same.trans sm
   obtain⟨x,hx,dx⟩:=ds1.get (i:=i) (d:=ds[i]) (Jd hi)
   obtain⟨y,hy,dy⟩:=ds2.get (i:=i) (d:=ds[i]) (Jd hi)
   have q1:ka false K H2 a1 vs1:=gB.seq s1
   have q2:ka false K H2 a2 vs2:=gB.seq s2
   refine⟨⟨_,_,_,_,q1,q2,hx,hy⟩,by rw[Jc,Ul];exact Jq (show i<10000000 by omega) (by decide),?_⟩
   rintro x' H3 ⟨T',rfl,hN⟩
   have n3:=hN _ _ _ _ q1 q2 hx hy
   refine⟨T',_,rfl,br.of n3.at,rfl,_,_,rfl,_,_,rfl,rfl,?_⟩
   have Ir:=gB.trans n3.same
   refine⟨_,rfl,_,rfl,x,y,ds[i],rfl,dx.same Ir,dy.same Ir,?_,?_,fun H4 qS=>nx _ _ ⟨sm.trans (n3.same.trans qS),?_⟩⟩
   ·have:=pH (n:=n-1) (by omega) (Ub hi)
    omega
   ·exact gq hw (Ub hi)
   ·rw[List.replicate_succ',Jy];rfl
  ·rintro ys H2 ⟨sm,rfl⟩
   have gB:=n1.same.trans sm
   have q1:ka false K H2 a1 vs1:=gB.seq s1
   have q2:ka false K H2 a2 vs2:=gB.seq s2
   refine⟨⟨_,_,q1,q2,.inl (by rw[ds1.len];exact Je _)⟩,fun p2 FO =>?_⟩
   refine⟨p2,Ju ds.length true,rfl,bb.of ay,?_⟩
   rw[all_true]
   exact q _ (gB.trans (bD FO _))
 | tuple ds=>
  have e1:=d1
  have e2:=d2
  unfold Den at e1 e2
  obtain⟨a1,vs1,rfl,s1,ds1⟩:=e1
  obtain⟨a2,vs2,rfl,s2,ds2⟩:=e2
  simp only[PyData.depth] at hn
  simp only[PyData.weight] at hw
  have Zj:=gD ds
  refine⟨_,rfl,.inl ⟨rfl,_,rfl,bF ?_⟩⟩
  refine⟨_,rfl,.inl ⟨_, "bool",.tuple ds,false,rfl,d2,rfl,_,rfl,bF ?_⟩⟩
  refine⟨_,rfl,by show 2<=sizeLine;decide,fun p H1 n1=>⟨_,p,["list", "tuple"],.tuple ds,true,rfl,n1.at,d2.same n1.same,rfl,_,rfl,bK ?_⟩⟩
  have b1:=d1.same n1.same
  have b2:=d2.same n1.same
  refine⟨_,rfl,.inl ⟨_, "list",.tuple ds,false,rfl,b1,rfl,_,rfl,.inl ⟨_, "list",.tuple ds,false,rfl,b2,rfl,.inl ⟨rfl,_,rfl,bF ?_⟩⟩⟩⟩
  refine⟨_,rfl,.inl ⟨_, "tuple",.tuple ds,true,rfl,b1,rfl,_,rfl,.inl ⟨_, "tuple",.tuple ds,true,rfl,b2,rfl,.inl ⟨rfl,_,rfl,bF ?_⟩⟩⟩⟩
  refine⟨_,rfl,_,_,rfl,.inr ⟨vs1,n1.same.bU s1,rfl⟩,_,rfl,_,_,rfl,.inr ⟨vs2,n1.same.bU s2,rfl⟩,.inl ⟨rfl,_,rfl,?_⟩⟩
  rw[decide_eq_true (show V.int (vs1.length:Nat)=V.int (vs2.length:Nat) by rw[ds1.len,ds2.len])]
  refine bF ?_
  refine⟨_,rfl,_,rfl,true,true,a1,a2,rfl,⟨_,n1.same.bU s1⟩,⟨_,n1.same.bU s2⟩,?_⟩
  refine dh (N:=ds.length) (fun i ys H'=>ao H1 H'/\ys=(Ju i true).map V.bl) ⟨ao.refl _,rfl⟩ ?_ ?_
  ·rintro i ys H2 Nx hi ⟨sm,rfl⟩ nx
   have gB:=n1.same.trans sm
   obtain⟨x,hx,dx⟩:=ds1.get (i:=i) (d:=ds[i]) (Jd hi)
   obtain⟨y,hy,dy⟩:=ds2.get (i:=i) (d:=ds[i]) (Jd hi)
   have q1:ka true K H2 a1 vs1:=gB.bU s1
   have q2:ka true K H2 a2 vs2:=gB.bU s2
   refine⟨⟨_,_,_,_,q1,q2,hx,hy⟩,by rw[Jc,Ul];exact Jq (show i<10000000 by omega) (by decide),?_⟩
   rintro x' H3 ⟨T',rfl,hN⟩
   have n3:=hN _ _ _ _ q1 q2 hx hy
   refine⟨T',_,rfl,br.of n3.at,rfl,_,_,rfl,_,_,rfl,rfl,?_⟩
   have Ir:=gB.trans n3.same
   refine⟨_,rfl,_,rfl,x,y,ds[i],rfl,dx.same Ir,dy.same Ir,?_,?_,fun H4 qS=>nx _ _ ⟨sm.trans (n3.same.trans qS),?_⟩⟩
   ·have:=pH (n:=n-1) (by omega) (Ub hi)
    omega
   ·exact gq hw (Ub hi)
   ·rw[List.replicate_succ',Jy];rfl
  ·rintro ys H2 ⟨sm,rfl⟩
   have gB:=n1.same.trans sm
   have q1:ka true K H2 a1 vs1:=gB.bU s1
   have q2:ka true K H2 a2 vs2:=gB.bU s2
   refine⟨⟨_,_,q1,q2,.inl (by rw[ds1.len];exact Je _)⟩,fun p2 FO =>?_⟩
   refine⟨p2,Ju ds.length true,rfl,bb.of ay,?_⟩
   rw[all_true]
   exact q _ (gB.trans (bD FO _))
 | dict _=>unfold Den at d1;exact d1.elim
end
theorem split_not {g:Nat->Bool}:∀(l:List Nat),l.all g=false->∃p c r,l=p++c::r/\(∀a∈p,g a=true)/\g c=false
 | [],h=>by cases h
 | a::l,h=>by
  cases ha:g a with
  | false=>exact⟨[],a,l,rfl,(fun _ z=>nomatch z),ha⟩
  | true=>
   rw[List.all_cons,ha,U2] at h
   obtain⟨p,c,r,rfl,hp,hc⟩:=split_not l h
   refine⟨a::p,c,r,rfl,fun x hx =>?_,hc⟩
   rcases Jv.mp hx with rfl|hx
   ·exact ha
   ·exact hp x hx
theorem yf (x y:Str):iX x y=x.cps.toList.all y.cps.contains:=by
 unfold iX Txt.stripChars
 rw[PyProof.Rows.stripBy_eq]
 generalize y.cps.contains=g
 unfold stripHi stripLo
 simp only[if_true]
 have sub:∀i j:Nat,decide (V.str (Builtin.Str.strSub x i j)=V.str (Str.ofString ""))=decide (min j x.length<=i):=fun i j=>by
  congr 1
  refine propext ⟨fun h =>?_,fun h =>?_⟩
  ·injection h with h
   have h:=congrArg (fun s:Str=>s.cps.size) h
   have e0:(Str.ofString "").cps.size=0:=rfl
   simp only[Builtin.Str.strSub,Array.size_extract,e0] at h
   have:x.cps.size=x.length:=rfl
   omega
  ·congr 1
   unfold Builtin.Str.strSub
   have e:x.cps.extract i j = #[]:=by
    apply Array.eq_empty_of_size_eq_zero
    rw[Array.size_extract]
    have:x.cps.size=x.length:=rfl
    omega
   rw[e]
   rfl
 rw[sub]
 have hlen:x.length=x.cps.toList.length:=by simp[Str.length]
 rw[hlen]
 generalize x.cps.toList=l
 by_cases h:l.all g=true
 ·rw[h]
  have e:l.takeWhile g=l:=by
   clear sub hlen
   induction l with
   | nil=>rfl
   | cons a l ih=>
    rw[List.all_cons,Jx] at h
    rw[List.takeWhile_cons,if_pos h.1,ih h.2]
  rw[e]
  exact decide_eq_true (by omega)
 ·have hf:l.all g=false:=by simpa using h
  rw[hf]
  apply decide_eq_false
  intro z
  obtain⟨p,c,r,rfl,hp,hc⟩:=split_not l hf
  have e:(p++c::r).takeWhile g=p:=by
   clear z hlen sub h hf
   induction p with
   | nil=>rw[List.nil_append,List.takeWhile_cons,hc];rfl
   | cons a p ih=>
    rw[List.cons_append,List.takeWhile_cons,if_pos (hp a Jr),ih fun x hx=>hp x (Jo _ hx)]
  have ed:(p++c::r).drop p.length=c::r:=List.drop_left
  rw[e,ed] at z
  have hl:(p++c::r).length=p.length+(r.length+1):=by rw[Jp,Jn]
  have tl:((c::r).reverse.takeWhile g).length<=r.length:=by
   rw[List.reverse_cons]
   have:((r.reverse++[c]).takeWhile g).length<=r.reverse.length:=by
    rw[List.takeWhile_append]
    split
    ·rw[Jp]
     have e:[c].takeWhile g=[]:=by simp[List.takeWhile,hc]
     rw[e];simp
    ·exact(List.takeWhile_prefix g).length_le
   rw[List.length_reverse] at this
   exact this
  omega
theorem mP {α:Type}[DecidableEq α]{f:Nat -> α}{k: α}:∀{i:Nat},k∈bN f i ↔ ∃j,j<i/\f j=k
 | 0=>by simp[bN]
 | i+1=>by
  unfold bN oneMore
  have ih:=mP (f:=f) (k:=k) (i:=i)
  by_cases h:f i∈bN f i
  ·rw[if_pos h,ih]
   constructor
   ·rintro⟨j,hj,e⟩;exact⟨j,by omega,e⟩
   ·rintro⟨j,hj,e⟩
    by_cases hji:j=i
    ·subst hji
     obtain⟨m,hm,em⟩:=(mP (f:=f) (k:=f j) (i:=j)).mp h
     exact⟨m,hm,em.trans e⟩
    ·exact⟨j,by omega,e⟩
  ·rw[if_neg h,Ug,ih,Jz]
   constructor
   ·rintro(⟨j,hj,e⟩|e)
    ·exact⟨j,by omega,e⟩
    ·exact⟨i,by omega,e.symm⟩
   ·rintro⟨j,hj,e⟩
    by_cases hji:j=i
    ·subst hji;exact .inr e.symm
    ·exact .inl ⟨j,by omega,e⟩
theorem uu {α:Type}[DecidableEq α]{f:Nat -> α}:∀{i:Nat},(bN f i).length=i ↔ ∀a b,a<b->b<i->f a≠f b
 | 0=>⟨fun _ a b _ h=>absurd h (Nat.not_lt_zero _),fun _=>rfl⟩
 | i+1=>by
  have ih:=uu (f:=f) (i:=i)
  have le:=jO f i
  unfold bN oneMore
  by_cases h:f i∈bN f i
  ·rw[if_pos h]
   refine⟨fun z=>by omega,fun z =>?_⟩
   obtain⟨j,hj,e⟩:=mP.mp h
   exact absurd e (z j i hj (by omega))
  ·rw[if_neg h,Jp,List.length_singleton]
   constructor
   ·intro z a b tU hb e
    by_cases hbi:b=i
    ·subst hbi
     exact h (mP.mpr ⟨a,tU,e⟩)
    ·exact ih.mp (by omega) a b tU (by omega) e
   ·intro z
    have:=ih.mpr fun a b tU hb=>z a b tU (by omega)
    omega
theorem A6 {l:List Str}:(bN (fun i=>l.getD i Str.empty) l.length).length=l.length↔l.Nodup:=by
 rw[uu,List.nodup_iff_pairwise_ne,Ux]
 constructor
 ·intro h i j hi hj vY e
  refine h i j vY hj ?_
  simp only[Uk,Jd hi,Jd hj]
  exact e
 ·intro h a b tU hb e
  refine h a b (by omega) hb tU ?_
  simpa only [Uk,Jd hb,Jd (show a<l.length by omega),Option.getD_some] using e
noncomputable def FK:PyData->Bool
 | .tuple [.str _,.str y]=>bV (.str y)
 | _=>false
theorem Gr {d:PyData}(h:FK d=true):∃x y,d = .tuple [.str x,.str y]/\bV (.str y)=true:=by
 unfold FK at h
 split at h
 ·exact⟨_,_,rfl,h⟩
 ·cases h
theorem nY:∀{ds:List PyData},(∀x∈ds,FK x=true)->ds=(cy (.list ds)).map fun q=>PyData.tuple [.str q.1,.str q.2]
 | [],_=>rfl
 | d::ds,h=>by
  obtain⟨x,y,rfl,_⟩:=Gr (h d Jr)
  have ih:=nY fun x hx=>h x (Jo _ hx)
  show PyData.tuple [.str x,.str y]::ds=PyData.tuple [.str x,.str y]::(cy (.list ds)).map fun q=>PyData.tuple [.str q.1,.str q.2]
  rw[<-ih]
theorem LC {ns:List Str}{d:PyData}{ds:List PyData}(e:fH d = .list ds)(h:∀x∈ds,FK x=true)(nn:ns≠[])(nd:ns.Nodup)(nv:∀x∈ns,cS (.str x)=true):
  cZ ns d=(decide (((cy (.list ds)).map (·.1)).Perm ns)&&uD (cy (.list ds))):=by
 unfold cZ
 rw[e]
 by_cases hp:((cy (.list ds)).map (·.1)).Perm ns
 ·rw[decide_eq_true hp,U2]
  have hb:cT (.list ds)=true:=by
   show(!ds.isEmpty&&(ds.all bq&&decide ((bN (fun i=>(ds.map fg).getD i Str.empty) ds.length).length=ds.length)))=true
   have en:ds.map fg=(cy (.list ds)).map (·.1):=by
    have e2:=congrArg (List.map fg) (nY h)
    rw[U0] at e2
    exact e2
   rw[Jx,Jx,Y2]
   refine⟨?_,fun x hx =>?_,decide_eq_true ?_⟩
   ·cases ds with
    | nil=>exact absurd hp.symm.eq_nil nn
    | cons _ _=>rfl
   ·have mE:=hx
    rw[nY h] at mE
    obtain⟨q,hq,rfl⟩:=Uh.mp mE
    have h1:=nv q.1 (hp.mem_iff.mp (Yx hq))
    have h2:bV (.str q.2)=true:=h _ hx
    show(cS (.str q.1)&&bV (.str q.2))=true
    rw[h1,h2];rfl
   ·have:=A6 (l:=ds.map fg)
    rw[Jc] at this
    exact this.mpr (by rw[en];exact hp.nodup_iff.mpr nd)
  rw[hb,U2]
 ·rw[decide_eq_false hp,Yh,Bool.and_false]
theorem Fz (x:Str):decide (V.str x=V.str (Str.ofString ""))=decide (x.length=0):=by
 congr 1
 refine propext ⟨fun h =>?_,fun h =>?_⟩
 ·injection h with h
  rw[h];rfl
 ·congr 1
  cases x with
  | mk c=>
   have:c = #[]:=Array.eq_empty_of_size_eq_zero h
   rw[this];rfl
structure OP (ns:List Str):Prop where
 l:ns.length<64
 nn:ns≠[]
 nd:ns.Nodup
 az:∀x∈ns,jo x=true
 ok:∀x∈ns,cS (.str x)=true
def oA (ws:List Str):Sp:=fun vs H Q _=>vs=[]/\∀p H',gX H p (.lst (ws.map V.str)) H'->Q (.ref p) H'
theorem O8:OP aE:=⟨by decide,by decide,by decide +kernel,by decide +kernel,by decide +kernel⟩
theorem Kx:OP bP:=⟨by decide,by decide,by decide +kernel,by decide +kernel,by decide +kernel⟩
theorem LN:OP bt:=⟨by decide,by decide,by decide +kernel,by decide +kernel,by decide +kernel⟩
section
variable {P:Program}{w:World}{K:Ja}{mg:Str->Option Value}{base:Heap}{f:Addr}{fd:FuncData}
theorem rH:aA [] [] (aj (top iL)):=⟨rfl,rfl,rfl,by decide +kernel,rfl,by decide +kernel,by decide +kernel⟩
theorem Ct (F:bO K "_law_kinds" "_law_kinds" (top iL) f fd)(T:Nm mg):bh P w K mg base eP 1 f fd [] (oA aE):=by
 refine F.ok rH (fun vs H Q E h =>?_) (fun cG A outer s H vs Q E hr h =>?_)
 ·obtain⟨rfl,_⟩:=h
  rfl
 obtain⟨rfl,q⟩:=h
 refine⟨_,(ag (av (uy K PySem.F.plainAttrs_str PySem.F.slot_str_split PySem.F.type_str_split Du aq (aa aq ae)))),?_⟩
 have Pw:Txt.split (Str.ofString "set add take tell ask jump zero stop farjump farzero skip") (Str.ofString " ")=aE:=by decide +kernel
 have sl:(Str.ofString " ").length≠0:=by decide +kernel
 refine⟨rfl,_,_,rfl,rfl,sl,by decide +kernel,by rw[Pw];decide,fun p H7 n7 =>?_⟩
 rw[Pw] at n7
 exact q p H7 n7
theorem rf:aA [] [] (aj (top ij)):=⟨rfl,rfl,rfl,by decide +kernel,rfl,by decide +kernel,by decide +kernel⟩
theorem CU (F:bO K "_law_sizes" "_law_sizes" (top ij) f fd)(T:Nm mg):bh P w K mg base eP 1 f fd [] (oA bt):=by
 refine F.ok rf (fun vs H Q E h =>?_) (fun cG A outer s H vs Q E hr h =>?_)
 ·obtain⟨rfl,_⟩:=h
  rfl
 obtain⟨rfl,q⟩:=h
 refine⟨_,(ag (av (uy K PySem.F.plainAttrs_str PySem.F.slot_str_split PySem.F.type_str_split Du aq (aa aq ae)))),?_⟩
 have Pw:Txt.split (Str.ofString "none one two three four five six seven eight") (Str.ofString " ")=bt:=by decide +kernel
 have sl:(Str.ofString " ").length≠0:=by decide +kernel
 refine⟨rfl,_,_,rfl,rfl,sl,by decide +kernel,by rw[Pw];decide,fun p H7 n7 =>?_⟩
 rw[Pw] at n7
 exact q p H7 n7
end
structure Mx (K:Ja)(G:Hp)(zs:List (PyData×V)):Prop where
 pJ:zs.length<=64
 d:∀z∈zs,Den K G z.1 z.2
 sh:∀z∈zs,Sh 2 z.1
theorem o8 {α:Type}:∀{l:List α} {k:Nat} {z: α},l[k]? = some z->(z::l.eraseIdx k).Perm l
 | [],_,_,h=>by cases h
 | x::l,0,z,h=>by
  cases h
  exact List.Perm.refl _
 | x::l,k+1,z,h=>by
  have ih:=o8 (l:=l) (k:=k) (z:=z) h
  exact(List.Perm.swap x z _).trans (ih.cons x)
def yQ (K:Ja):Sp:=fun vs H Q _=>Ch fun(b c p:Addr) (t:Int) (G:Hp) (zs:List (PyData×V))=>vs=[.ref b,.ref p]/\Bx H b c t/\0<=t/\t<50000000/\ao G (fK H b c)/\(bb K H p (zs.map (·.2))∨br K H p (zs.map (·.2)))/\Mx K G zs /\
 ∀(l:Addr) (BZ:List (PyData×V)) (H':Hp) (t':Int),BZ.Perm zs->H l=none->H' l=some (.lst (BZ.map (·.2)))->Step b c H H' t t' 64->Q (.ref l) H'
section
variable {P:Program}{w:World}{K:Ja}{mg:Str->Option Value}{base:Heap}{f:Addr}{fd:FuncData}
theorem gW:aA ["_law_state", "_law_some", "_law_rest", "_law_found"] ["_law_state", "_law_some"] (aj (top ig)):=⟨rfl,rfl,rfl,by decide +kernel,rfl,by decide +kernel,by decide +kernel⟩
theorem DG (F:bO K "_law_mixed" "_law_mixed" (top ig) f fd)(T:Nm mg)(aG:Fn P w K mg base 1 "_law_take" ["_law_state", "_law_many"] ua):bh P w K mg base eP 2 f fd ["_law_state", "_law_some"] (yQ K):=by
 refine F.ok gW (fun vs H Q E h =>?_) (fun cG A outer s H vs Q E hr h =>?_)
 ·obtain⟨b,c,p,t,G,zs,rfl,_⟩:=h
  rfl
 obtain⟨b,c,p,t,G,zs,rfl,bx,t0,t1,hG,hs,M,q⟩:=h
 have eT:=hr.units
 refine⟨_,(af (aF (i:=2) gW.nd rfl (Or.inl rfl) (bf (EX K) rfl T.n_list (by rfl) (aa (pv 1) ae)))
  (af (aF (i:=3) gW.nd rfl (Or.inl rfl) (fE ae))
  (af (pG PassesOwn.never (aQ (JV K eT) (pv 2) (fE ae) (aV _)) (ag (fN (uy K PySem.F.plainAttrs_list PySem.F.slot_list_append PySem.F.type_list_append jd (pv 3) (aa (uy K PySem.F.plainAttrs_list PySem.F.slot_list_pop PySem.F.type_list_pop Kv (pv 2) (aa (aB (aG.mono (by decide)) hr rfl (aa (pv 0) (aa (ax (ia K) rfl T.n_len (by rfl) (aa (pv 2) ae)) ae))) ae)) ae)))))
  (ag (av (pv 3)))))),?_⟩
 refine⟨_,rfl,p,_,rfl,hs,fun p1 H1 n1=>gn ⟨by show 0<=sizeLine;decide,fun p2 H2 n2=>gn ?_⟩⟩
 dsimp only
 have qL:=n1.nn
 have FO:H p2=none:=n1.back n2.nn
 have Wv:p2≠p1:=fun z=>by have:=n2.nn;rw[z,n1.at] at this;cases this
 obtain⟨b1,c1⟩:=bx.aO qL
 obtain⟨b2,c2⟩:=bx.aO FO
 have eK:Step b c H H2 t t 0:=Step.same bx (n1.same.trans n2.same)
 have zl:=M.pJ
 refine iq (t:=mY _ _) (fun σ H'=>∃(fs:List (PyData×V)) (t':Int),σ=[some (.ref b),some (.ref p),some (.ref p1),some (.ref p2)]/\fs.Perm zs/\Step b c H H' t t' 64/\H' p2=some (.lst (fs.map (·.2)))) (fun Nx nx =>?_) ?_
 ·refine rX (fun m σ H'=>∃(rs fs:List (PyData×V)) (t':Int),m=rs.length /\ σ=[some (.ref b),some (.ref p),some (.ref p1),some (.ref p2)]/\(rs++fs).Perm zs/\Step b c H H' t t' (64-rs.length)/\H' p1=some (.lst (rs.map (·.2)))/\H' p2=some (.lst (fs.map (·.2)))) ⟨_,zs,[],t,rfl,rfl,by rw[Ym],eK.more (by omega),n2.same _ _ n1.at,n2.at⟩ ?_
  rintro m σ H3 ⟨rs,fs,t3,rfl,rfl,pm,dv,hr3,hf3⟩
  have PX:=dv.ub
  have Qh:=dv.le
  have rl:=pm.length_eq
  rw[Jp] at rl
  have G3:ao G H3:=fun a o e=>(jE (dv.sm _ _ (hG _ _ e))).1
  have mem:∀z∈rs,z∈zs:=fun z hz=>pm.mem_iff.mp (Yq _ hz)
  refine⟨_,rfl,by show 0<=sizeLine;decide,fun pe H4 n4 =>.inr ⟨.list (rs.map (·.1)),.list [],Den.list (bb.of (n4.same _ _ hr3)) (aN.of_get (by rw[Jc,Jc]) fun j d v hd hv =>?_),Den.list (bb.of n4.at) (Den.strs []),(Sh.list (n:=2) fun d hd =>?_).shaped (by decide),by decide +kernel,_,rfl,?_⟩⟩
  ·rw[Ji] at hd hv
   cases e:rs[j]? with
   | none=>rw[e] at hd;cases hd
   | some z=>
    rw[e] at hd hv
    cases hd;cases hv
    exact(M.d z (mem z (J2 e))).same (G3.trans n4.same)
  ·obtain⟨z,hz,rfl⟩:=Uh.mp hd
   exact M.sh z (mem z hz)
  rw[yF]
  have fR:=dv.dI n4
  have Sf:=n4.same _ _ hr3
  have Rt:=n4.same _ _ hf3
  cases rs with
  | nil=>exact bF (nx _ _ ⟨fs,t3,rfl,pm,fR.more (by simp),Rt⟩)
  | cons r0 rs0=>
   generalize hrs:r0::rs0=rs at *
   have pos:1<=rs.length:=by rw[<-hrs];exact Y9 (Um _)
   have em:(rs.map (·.1)).isEmpty=false:=by rw[<-hrs];rfl
   rw[em]
   refine bK ⟨fun σ' H'=>∃m',m'<rs.length/\_,fun _ _ h=>h,?_⟩
   have small:∀{n:Nat},n<=10000->n<sizeLine:=fun h=>J1 h (by decide)
   have vl:(rs.map (·.2)).length=rs.length:=Jc _
   refine⟨_,rfl,.inl ⟨rfl,_,bb.of Rt⟩,_,rfl,.inl ⟨rfl,_,bb.of Sf⟩,_,rfl,_,rfl,_,_,rfl,.inl ⟨_,bb.of Sf,rfl⟩,b,c,t3,_,rfl,fR.bx,by omega,by omega,by omega,by omega,fun a H5 a0 a1 cB =>?_⟩
   have WX:=cB.old Sf b1 c1
   have ZI:=cB.old Rt b2 c2
   have cB:=fR.trans cB
   obtain⟨z,hz⟩:∃z,rs[a.toNat]? = some z:=⟨_,Jd (by omega)⟩
   refine⟨p1,_,a,z.2,rfl,rfl,WX,a0,by omega,by rw[Ji,hz];rfl,fun H6 c6 =>?_⟩
   have ZY:H6 p2=some (.lst (fs.map (·.2))):=by rw[c6.ne Wv];exact ZI
   refine⟨p2,_,_,rfl,rfl,ZY,small (by rw[Jc];omega),fun H7 c7 =>?_⟩
   have le:(rs.eraseIdx a.toNat).length=rs.length-1:=List.length_eraseIdx_of_lt (by omega)
   refine⟨(rs.eraseIdx a.toNat).length,by omega,rs.eraseIdx a.toNat,fs++[z],t3+1,rfl,rfl,?_,((cB.Df c6 qL b1 c1).Df c7 FO b2 c2).more (by omega),?_,?_⟩
   ·refine List.Perm.trans ?_ pm
    have h1:=o8 hz
    refine List.Perm.trans ?_ (h1.append_right fs)
    rw[<-List.append_assoc]
    exact List.perm_append_singleton z _
   ·rw[c7.ne Wv.symm,c6.at]
    congr 2
    rw[Yo,Yo,Jy,List.map_take,List.map_drop]
   ·rw[c7.at,Jy];rfl
 rintro σ H3 ⟨fs,t3,rfl,pm,dv,hf3⟩
 exact⟨_,rfl,q p2 fs H3 t3 pm FO hf3 dv⟩
end
noncomputable def KR (most:Nat)(cs:List Str):Nat:=(cs.map fun x=>2^(most-x.length)).sum
structure Cs (most:Nat)(cs:List Str):Prop where
 free:eV cs
 bin:∀x∈cs,uG x
 le:∀x∈cs,x.length<=most
 full:KR most cs=2^most
theorem Gy {most:Nat}{cs ds:List Str}(h:cs.Perm ds):KR most cs=KR most ds:=(h.map _).sum_nat
theorem Cs.one {most:Nat}:Cs most [Str.empty]:=⟨List.pairwise_singleton _ _,fun x hx=>by rw[Jz.mp hx];exact fun c hc=>by simp[Str.empty] at hc,fun x hx=>by rw[Jz.mp hx];exact Um _,by unfold KR;rw[J0,List.map_nil,Ye,List.sum_nil];show 2^(most-0)+0=2^most;rw[Nat.sub_zero,Nat.add_zero]⟩
theorem uL {most:Nat}:∀{cs:List Str},(∀x∈cs,most<=x.length)->KR most cs=cs.length
 | [],_=>rfl
 | x::cs,h=>by
  have ih:=uL (cs:=cs) fun y hy=>h y (Jo _ hy)
  unfold KR at ih ⊢
  rw[J0,Ye,ih,show most-x.length=0 from Nat.sub_eq_zero_of_le (h x Jr),Jn]
  omega
theorem Cs.short {most:Nat}{cs:List Str}(h:Cs most cs)(hl:cs.length<2^most):∃x∈cs,x.length<most:=by
 apply Classical.byContradiction
 intro n
 have:=uL (most:=most) (cs:=cs) fun x hx=>Nat.le_of_not_lt fun z=>n ⟨x,hx,z⟩
 rw[h.full] at this
 omega
theorem mX (y z:Str):(y++z).length=y.length+z.length:=by
 show(y.cps++z.cps).size=_
 rw[Array.size_append];rfl
theorem Cs.part {most:Nat}{cs:List Str}{y:Str}(h:Cs most cs)(hy:y∈cs)(hl:y.length<most):Cs most (cs.erase y++[y++s0,y++s1]):=by
 have pm:cs.Perm (y::cs.erase y):=List.perm_cons_erase hy
 have l0:(y++s0).length=y.length+1:=mX _ _
 have l1:(y++s1).length=y.length+1:=mX _ _
 have sub:∀x∈cs.erase y,x∈cs:=fun x hx=>List.mem_of_mem_erase hx
 refine⟨?_,fun x hx =>?_,fun x hx =>?_,?_⟩
 ·have:=eV.split (A:=[]) (B:=cs.erase y) (x:=y) (h.free.perm pm)
  exact this.perm List.perm_append_comm
 ·rcases Ug.mp hx with hx|hx
  ·exact h.bin x (sub x hx)
  ·have hb:=h.bin y hy
   simp only[Jv,Ue,or_false] at hx
   rcases hx with rfl|rfl
   ·intro c hc
    rw[show(y++s0).cps.toList=y.cps.toList++[48] from aK y s0] at hc
    rcases Ug.mp hc with hc|hc
    ·exact hb c hc
    ·exact .inl (Jz.mp hc)
   ·intro c hc
    rw[show(y++s1).cps.toList=y.cps.toList++[49] from aK y s1] at hc
    rcases Ug.mp hc with hc|hc
    ·exact hb c hc
    ·exact .inr (Jz.mp hc)
 ·rcases Ug.mp hx with hx|hx
  ·exact h.le x (sub x hx)
  ·simp only[Jv,Ue,or_false] at hx
   rcases hx with rfl|rfl<;>omega
 ·have e:=h.full
  rw[Gy pm] at e
  unfold KR at e ⊢
  rw[J0,Ye] at e
  rw[Jy,List.sum_append,J0,J0,List.map_nil,Ye,Ye,List.sum_nil,l0,l1]
  have:2^(most-y.length)=2^(most-(y.length+1))+2^(most-(y.length+1)):=by
   rw[show most-y.length=(most-(y.length+1))+1 by omega,Nat.pow_succ]
   omega
  omega
theorem eV.longer {fs gs:List Str}(h:eV fs)(hl:gs.length=fs.length)(he:∀(j:Nat) y,gs[j]? = some y->∃x u,fs[j]? = some x/\y=x++u):eV gs:=by
 have h:=Ux.mp h
 refine Ux.mpr fun i j hi hj vY =>?_
 obtain⟨x,u,hx,ex⟩:=he i gs[i] (Jd hi)
 obtain⟨y,v,hy,ey⟩:=he j gs[j] (Jd hj)
 obtain⟨v9,rfl⟩:=Jt.mp hx
 obtain⟨Lj,rfl⟩:=Jt.mp hy
 rw[ex,ey]
 exact(h i j v9 Lj vY).ext
theorem zG:uG (Str.ofString ""):=fun c hc=>by
 rw[show(Str.ofString "").cps.toList=[] by decide +kernel] at hc
 cases hc
def EO:Sp:=fun vs H Q _=>wb fun(b c:Addr) (t:Int) (many most:Nat)=>vs=[.ref b,.int (many:Nat),.int (most:Nat)]/\Bx H b c t/\0<=t/\t<40000000/\2<=many/\many<=20/\many<=2^most/\most<=12 /\
 ∀(l:Addr) (cs:List Str) (H':Hp) (t':Int),cs.length=many->eV cs->(∀x∈cs,uG x/\x.length<=most+2)->H l=none->H' l=some (.lst (cs.map V.str))->Step b c H H' t t' 200->Q (.ref l) H'
section
variable {P:Program}{w:World}{K:Ja}{mg:Str->Option Value}{base:Heap}{f:Addr}{fd:FuncData}
theorem cU:aA ["_law_state", "_law_many", "_law_most", "_law_found", "_law_short", "_law_code"] ["_law_state", "_law_many", "_law_most"] (aj (top iM)):=⟨rfl,rfl,rfl,by decide +kernel,rfl,by decide +kernel,by decide +kernel⟩
theorem Kn (F:bO K "_law_codes" "_law_codes" (top iM) f fd)(T:Nm mg)(aG:Fn P w K mg base 1 "_law_take" ["_law_state", "_law_many"] ua)(eF:Fn P w K mg base 2 "_law_mixed" ["_law_state", "_law_some"] (yQ K)):bh P w K mg base eP 3 f fd ["_law_state", "_law_many", "_law_most"] EO:=by
 refine F.ok cU (fun vs H Q E h =>?_) (fun cG A outer s H vs Q E hr h =>?_)
 ·obtain⟨b,c,t,many,most,rfl,_⟩:=h
  rfl
 obtain⟨b,c,t,many,most,rfl,bx,t0,t1,m2,m20,mm,m12,q⟩:=h
 have eT:=hr.units
 refine⟨_,(af (aF (i:=3) cU.nd rfl (Or.inl rfl) (fE (aa aq ae)))
  (af (pG PassesOwn.never (aQ l6 (ax (ia K) rfl T.n_len (by rfl) (aa (pv 3) ae)) (pv 1) (aV _)) (af (gE (i:=4) cU.nd rfl (Or.inl rfl) rfl (cq (Nc:=["_law_code"]) (Fc:=["_law_most"]) (js:=[2])) (G7 K (pv 3)) (bG (i:=0) (n:=1) (by decide)) (fun _ _ _ _ _=>(aD (i:=0) (qv ["_law_code", "_law_most"]) rfl (Or.inl rfl))) (fun _ _ _ _ _=>(tP (aQ l6 (ax (ia K) rfl T.n_len (by rfl) (aa (pv 0) ae)) (pv 1) (aV _)))) (fun _ _ _ _ _=>(pv 0)))
  (af (aF (i:=5) cU.nd rfl (Or.inl rfl) (bp (fI K) (pv 4) (aB (aG.mono (by decide)) hr rfl (aa (pv 0) (aa (ax (ia K) rfl T.n_len (by rfl) (aa (pv 4) ae)) ae))) (fun _ _=>rfl)))
  (af (fN (uy K PySem.F.plainAttrs_list PySem.F.slot_list_remove PySem.F.type_list_remove FU (pv 3) (aa (pv 5) ae)))
  (ag (aF (i:=3) cU.nd rfl (Or.inl rfl) (aH cE (pv 3) (fE (aa (aH cE (pv 5) aq) (aa (aH cE (pv 5) aq) ae))))))))))
  (af (bA (aQ (qj K eT) (aB (aG.mono (by decide)) hr rfl (aa (pv 0) (aa ah ae))) ah (aV _)) (ag (gE (i:=3) cU.nd rfl (Or.inl rfl) rfl (cq (Nc:=["_law_code"]) (Fc:=["_law_state"]) (js:=[0])) (G7 K (pv 3)) (bG (i:=0) (n:=1) (by decide)) (fun _ _ _ _ _=>(aD (i:=0) (qv ["_law_code", "_law_state"]) rfl (Or.inl rfl))) (fun _ _ _ _ _=>dg) (fun _ _ _ _ _=>(aH cE (pv 0) (bp (fI K) (fE (aa aq (aa aq (aa aq (aa aq (aa aq ae)))))) (aB (aG.mono (by decide)) hr rfl (aa (pv 1) (aa ah ae))) (fun _ _=>rfl)))))) aM)
  (ag (av (aB (eF.mono (by decide)) hr rfl (aa (pv 0) (aa (pv 3) ae)))))))),?_⟩
 refine⟨by show 1<=sizeLine;decide,fun l0 H1 n1=>gn ?_⟩
 dsimp only
 have small:∀{n:Nat},n<=10000->n<sizeLine:=fun h=>J1 h (by decide)
 refine iq (t:=mY _ _) (fun σ H'=>∃(cs:List Str) (l:Addr) (t':Int) (x4 x5:Option V),σ=[some (.ref b),some (.int (many:Nat)),some (.int (most:Nat)),some (.ref l),x4,x5]/\cs.length=many/\Cs most cs/\H l=none/\H' l=some (.lst (cs.map V.str))/\Step b c H H' t t' 20) (fun Nx nx =>?_) ?_
 ·refine rX (fun m σ H'=>∃(cs:List Str) (l:Addr) (t':Int) (x4 x5:Option V),m=many-cs.length /\ σ=[some (.ref b),some (.int (many:Nat)),some (.int (most:Nat)),some (.ref l),x4,x5]/\cs.length<=many/\Cs most cs/\H l=none/\H' l=some (.lst (cs.map V.str))/\Step b c H H' t t' cs.length) ⟨_,[Str.empty],l0,t,_,_,rfl,rfl,by show 1<=many;omega,Cs.one,n1.nn,n1.at,(Step.same bx n1.same).more (by decide)⟩ ?_
  rintro m σ H3 ⟨cs,l,t3,x4,x5,rfl,rfl,cm,C,hl,mU,dv⟩
  have PX:=dv.ub
  have Qh:=dv.le
  have vl:(cs.map V.str).length=cs.length:=Jc _
  obtain⟨lb,lc⟩:=bx.aO hl
  refine⟨_,rfl,_,_,rfl,.inl ⟨_,bb.of mU,rfl⟩,_,rfl,_,_,rfl,rfl,_,rfl,?_⟩
  refine eU (fun c1 =>?_) (fun c1 =>?_)
  ·have c1:cs.length<many:=by have:=of_decide_eq_true c1;omega
   refine⟨fun σ' H'=>∃m',m'<many-cs.length/\_,fun _ _ h=>h,?_⟩
   refine⟨_,rfl,l,rfl,⟨_,bb.of mU⟩,?_⟩
   refine dh (N:=cs.length) (fun i ys H'=>H'=H3/\ys=((cs.take i).filter fun x=>decide (x.length<most)).map V.str) ⟨rfl,rfl⟩ ?_ ?_
   ·rintro i ys H' Ny hi ⟨rfl,rfl⟩ ny
    have hx:(cs.map V.str)[i]? = some (.str cs[i]):=by rw[Ji,Jd hi];rfl
    have xl:=C.le cs[i] (Ub hi)
    have fl:((cs.take i).filter fun x=>decide (x.length<most)).length<=20:=Jh (List.length_filter_le _ _) (by rw[Uq];omega)
    refine⟨⟨_,_,bb.of mU,hx⟩,small (by rw[Jc];omega),?_⟩
    rintro x' H4 ⟨rfl,hy⟩
    have e:=hy _ (bb.of mU)
    rw[hx] at e;cases e
    refine gn ?_
    refine⟨_,rfl,_,_,rfl,⟨U8 (small (by omega)),rfl⟩,_,rfl,_,_,rfl,rfl,_,rfl,?_⟩
    have Vm:∀ys',ys'=((cs.take (i+1)).filter fun x=>decide (x.length<most)).map V.str->Ny ys' H4:=fun ys' e=>ny _ _ ⟨rfl,e⟩
    rw[U3 hi,List.filter_append,Jy] at Vm
    refine eU (fun c2 =>?_) (fun c2 =>?_)
    ·have c2:cs[i].length<most:=by have:=of_decide_eq_true c2;omega
     refine⟨_,rfl,Vm _ ?_⟩
     rw[List.filter_cons_of_pos (by exact decide_eq_true c2)]
     rfl
    ·have c2:¬cs[i].length<most:=fun z=>c2 (decide_eq_true (by omega))
     refine Vm _ ?_
     rw[List.filter_cons_of_neg (by rw[decide_eq_false c2];decide)]
     exact(Ym _).symm
   rintro ys H4 ⟨rfl,rfl⟩
   refine⟨⟨_,bb.of mU,by rw[vl];exact Je _⟩,?_⟩
   rw[Y3]
   obtain⟨y0,hy0,ly0⟩:=C.short (by omega)
   have Mt:∀y∈cs.filter fun x=>decide (x.length<most),y∈cs/\y.length<most:=fun y hy=>by
    obtain⟨z1,z2⟩:=List.mem_filter.mp hy
    exact⟨z1,of_decide_eq_true z2⟩
   have pos:1<=(cs.filter fun x=>decide (x.length<most)).length:=List.length_pos_of_mem (List.mem_filter.mpr ⟨hy0,decide_eq_true ly0⟩)
   have fl:(cs.filter fun x=>decide (x.length<most)).length<=20:=Jh (List.length_filter_le _ _) (by omega)
   generalize (cs.filter fun x=>decide (x.length<most))=sh at Mt pos fl
   have vs:(sh.map V.str).length=sh.length:=Jc _
   refine fun ls Mw=>gn ?_
   have n4:gX H4 ls (.lst (sh.map V.str)) (upd H4 ls (.lst (sh.map V.str))):=⟨Mw,rfl⟩
   generalize upd H4 ls (.lst (sh.map V.str))=H5 at n4
   have Hi:=n4.same _ _ mU
   have cB:=dv.dI n4
   obtain⟨sb,sc⟩:=dv.bx.aO n4.nn
   refine⟨_,rfl,_,rfl,_,rfl,_,_,rfl,.inl ⟨_,bb.of n4.at,rfl⟩,b,c,t3,_,rfl,cB.bx,by omega,by omega,by omega,by omega,fun a H6 a0 a1 gb =>?_⟩
   have WT:=gb.old n4.at sb sc
   have Mo:=gb.old Hi lb lc
   have gb:=cB.trans gb
   obtain⟨y,hy⟩:∃y,sh[a.toNat]? = some y:=⟨_,Jd (by omega)⟩
   obtain⟨yc,yl⟩:=Mt y (J2 hy)
   refine .inl ⟨ls,_,a,.str y,rfl,rfl,bb.of WT,cX a0 (by rw[Ji,hy];rfl),gn ?_⟩
   refine⟨_,rfl,.inl ⟨rfl,_,bb.of Mo⟩,_,rfl,l,cs,y,rfl,rfl,Mo,yc,fun H7 c7 =>?_⟩
   have jf:=gb.Df c7 hl lb lc
   have el:(cs.erase y).length=cs.length-1:=List.length_erase_of_mem yc
   have dB:1<=cs.length:=List.length_pos_of_mem yc
   have k0:(Str.ofString "0").length=1:=rfl
   have k1:(Str.ofString "1").length=1:=rfl
   refine⟨_,rfl,_,rfl,.inr (.inl ⟨_,_,rfl,rfl,U8 (small (by rw[k0];omega)),_,rfl,.inr (.inl ⟨_,_,rfl,rfl,U8 (small (by rw[k1];omega)),by show 2<=sizeLine;decide,fun lp H8 n8 =>.inr (.inr ⟨l,lp,_,_,rfl,rfl,n8.same _ _ c7.at,n8.at,U8 (small (by simp only[Jc,Jn,Y5];omega)),fun l' H9 n9=>gn ?_⟩)⟩)⟩)⟩
   have kW:=(jf.dI n8).dI n9
   have cl:(cs.erase y++[y++s0,y++s1]).length=cs.length+1:=by rw[Jp,el];show cs.length-1+2=_;omega
   refine⟨many-(cs.length+1),by omega,cs.erase y++[y++s0,y++s1],l',t3+1,_,_,by rw[cl],rfl,by omega,C.part yc yl,(jf.dI n8).fresh bx n9.nn,by rw[n9.at,Jy];rfl,kW.more (by omega)⟩
  ·have c1:¬(cs.length<many):=fun z=>(Uw.mp (Uw.mpr c1)) (decide_eq_true (by omega))
   exact nx _ _ ⟨cs,l,t3,x4,x5,rfl,by omega,C,hl,mU,dv.more (by omega)⟩
 rintro σ H3 ⟨cs,l,t3,x4,x5,rfl,cm,C,hl,mU,dv⟩
 have PX:=dv.ub
 have Qh:=dv.le
 obtain⟨lb,lc⟩:=bx.aO hl
 have vl:(cs.map V.str).length=cs.length:=Jc _
 refine iq (t:=Fv _ _ _) (fun σ H'=>∃(ds:List Str) (l:Addr) (t':Int) (x4 x5:Option V),σ=[some (.ref b),some (.int (many:Nat)),some (.int (most:Nat)),some (.ref l),x4,x5]/\ds.length=many/\eV ds/\(∀x∈ds,uG x/\x.length<=most+2)/\H l=none/\H' l=some (.lst (ds.map V.str))/\Step b c H H' t t' 50) (fun Nx nx =>?_) ?_
 ·refine⟨_,rfl,b,c,t3,2,rfl,dv.bx,by omega,by omega,by omega,by omega,fun a H4 a0 a1 fR =>?_⟩
  have zL:=fR.old mU lb lc
  have fR:=dv.trans fR
  refine .inl ⟨rfl,_,rfl,eU (fun _ =>?_) (fun _ =>?_)⟩
  ·refine⟨_,rfl,l,rfl,⟨_,bb.of zL⟩,?_⟩
   refine dh (N:=cs.length) (fun i ys H'=>∃(gs:List Str) (t':Int),ys=gs.map V.str/\gs.length=i/\(∀(j:Nat) y,gs[j]? = some y->∃x u,cs[j]? = some x/\y=x++u/\uG u/\u.length<=2)/\Step b c H H' t t' (21+i)/\H' l=some (.lst (cs.map V.str))) ⟨[],t3+1,rfl,rfl,(fun j y e=>nomatch e),fR.more (by omega),zL⟩ ?_ ?_
   ·rintro i ys H5 Ny hi ⟨gs,t5,rfl,gl,gg,cB,Hi⟩ ny
    have VQ:=cB.ub
    have Wu:=cB.le
    have hx:(cs.map V.str)[i]? = some (.str cs[i]):=by rw[Ji,Jd hi];rfl
    refine⟨⟨_,_,bb.of Hi,hx⟩,small (by rw[Jc];omega),?_⟩
    rintro x' H6 ⟨rfl,hy⟩
    have e:=hy _ (bb.of Hi)
    rw[hx] at e;cases e
    have xl:=C.le cs[i] (Ub hi)
    refine gn ?_
    refine⟨_,rfl,by show 5<=sizeLine;decide,fun lp H7 n7=>⟨_,rfl,b,c,t5,5,rfl,cB.bx.same n7.same,by omega,by omega,by omega,by omega,fun r H8 r0 r1 eG =>?_⟩⟩
    obtain⟨pb,pc⟩:=cB.bx.aO n7.nn
    have QT:=eG.old n7.at pb pc
    have Ze:=eG.old (n7.same _ _ Hi) lb lc
    have eG:=(cB.dI n7).trans eG
    obtain⟨u,hu,bu,lu⟩:∃u:Str,([V.str "",V.str "",V.str "0",V.str "1",V.str "01"]:List V)[r.toNat]? = some (.str u)/\uG u/\u.length<=2:=by
     have:r=0∨r=1∨r=2∨r=3∨r=4:=by omega
     rcases this with rfl|rfl|rfl|rfl|rfl
     ·exact⟨"",rfl,zG,by decide⟩
     ·exact⟨"",rfl,zG,by decide⟩
     ·exact⟨"0",rfl,(by unfold uG;decide +kernel),by decide⟩
     ·exact⟨"1",rfl,(by unfold uG;decide +kernel),by decide⟩
     ·exact⟨"01",rfl,(by unfold uG;decide +kernel),by decide⟩
    refine .inl ⟨lp,_,r,.str u,rfl,rfl,bb.of QT,cX r0 hu,.inr (.inl ⟨_,_,rfl,rfl,U8 (small (by omega)),ny _ _ ⟨gs++[cs[i]++u],t5+1,by rw[Jy];rfl,by rw[Jp,gl];rfl,fun j y hj =>?_,eG.more (by omega),Ze⟩⟩)⟩
    by_cases hji:j<gs.length
    ·rw[Uj hji] at hj
     exact gg j y hj
    ·rw[Ui (by omega)] at hj
     have:j-gs.length=0:=by have:=(Jt.mp hj).1;simp at this;omega
     rw[this] at hj
     cases hj
     exact⟨cs[i],u,by rw[show j=i by omega];exact Jd hi,rfl,bu,lu⟩
   ·rintro ys H5 ⟨gs,t5,rfl,gl,gg,cB,Hi⟩
    refine⟨⟨_,bb.of Hi,by rw[vl];exact Je _⟩,fun p6 hp6=>gn ?_⟩
    have n6:gX H5 p6 (.lst (gs.map V.str)) (upd H5 p6 (.lst (gs.map V.str))):=⟨hp6,rfl⟩
    generalize upd H5 p6 (.lst (gs.map V.str))=H6 at n6
    refine nx _ _ ⟨gs,p6,t5,x4,x5,rfl,by omega,?_,fun x hx =>?_,cB.fresh bx n6.nn,n6.at,(cB.dI n6).more (by omega)⟩
    ·exact C.free.longer (by omega) fun j y hj=>by
      obtain⟨x,u,h1,h2,_⟩:=gg j y hj
      exact⟨x,u,h1,h2⟩
    ·obtain⟨j,hj,rfl⟩:=List.getElem_of_mem hx
     obtain⟨x,u,h1,h2,h3,h4⟩:=gg j _ (Jd hj)
     have xm:=J2 h1
     have xl:=C.le x xm
     rw[h2]
     refine⟨fun ch hc =>?_,by rw[mX];omega⟩
     rw[show(x++u).cps.toList=x.cps.toList++u.cps.toList from aK x u] at hc
     rcases Ug.mp hc with hc|hc
     ·exact C.bin x xm ch hc
     ·exact h3 ch hc
  ·exact nx _ _ ⟨cs,l,t3+1,x4,x5,rfl,cm,C.free,fun x hx=>⟨C.bin x hx,by have:=C.le x hx;omega⟩,hl,zL,fR.more (by omega)⟩
 rintro σ H4 ⟨ds,l,t4,x4,x5,rfl,dm,fr,ok,hl,zL,fR⟩
 have Wn:=fR.ub
 have V2:=fR.le
 obtain⟨lb,lc⟩:=bx.aO hl
 have em:(ds.map fun x=>(PyData.str x,V.str x)).map (·.2)=ds.map V.str:=by rw[U0];rfl
 refine⟨_,rfl,_,rfl,b,c,l,t4,fK H4 b c,ds.map fun x=>(PyData.str x,V.str x),rfl,fR.bx,by omega,by omega,ao.refl _,.inl (bb.of (by rw[em];exact zL)),⟨by rw[Jc];omega,fun z hz =>?_,fun z hz =>?_⟩,fun l5 zs H5 t5 pm hn h5 cB =>?_⟩
 ·obtain⟨x,_,rfl⟩:=Uh.mp hz
  show Den K _ (.str x) (.str x)
  unfold Den
  rfl
 ·obtain⟨x,hx,rfl⟩:=Uh.mp hz
  exact Sh.str (dM fun ch hc=>by rcases(ok x hx).1 ch hc with rfl|rfl<;>decide)
 ·have ez:∃es:List Str,zs=es.map (fun x=>(PyData.str x,V.str x))/\es.Perm ds:=by
   refine⟨zs.map fun z=>match z.1 with | .str x=>x|_=>Str.empty,?_,?_⟩
   ·rw[U0]
    refine(List.map_id zs).symm.trans (Yy fun z hz =>?_)
    obtain⟨x,_,rfl⟩:=Uh.mp (pm.mem_iff.mp hz)
    rfl
   ·have:=pm.map fun z:PyData×V=>match z.1 with | .str x=>x|_=>Str.empty
    rw[U0] at this
    refine this.trans ?_
    rw[show(ds.map ((fun z:PyData×V=>match z.1 with | .str x=>x|_=>Str.empty)∘fun x=>(PyData.str x,V.str x)))=ds from(Yy fun x _=>rfl).trans (List.map_id ds)]
  obtain⟨es,rfl,pe⟩:=ez
  refine q l5 es H5 t5 (by rw[pe.length_eq,dm]) (fr.perm pe.symm) (fun x hx=>ok x (pe.mem_iff.mp hx)) (fR.fresh bx hn) ?_ ((fR.trans cB).more (by omega))
  rw[h5,U0]
  rfl
end
noncomputable abbrev fG (q:Str×Str):PyData := .tuple [.str q.1,.str q.2]
theorem lF:∀{ns cs:List Str} {k:Nat} {x c:Str},ns.Nodup->ns[k]? = some x->cs[k]? = some c->aX (ns.zip cs) x=c
 | [],_,_,_,_,_,h,_=>nomatch h
 | _::_,[],_,_,_,_,_,h=>nomatch h
 | n::ns,c0::cs,0,x,c,_,h1,h2=>by
  cases h1;cases h2
  show(if n=n then c0 else _)=c0
  exact if_pos rfl
 | n::ns,c0::cs,k+1,x,c,nd,h1,h2=>by
  obtain⟨n1,n2⟩:=U9.mp nd
  have hx:x∈ns:=J2 (show ns[k]? = some x from h1)
  show(if n=x then c0 else aX (ns.zip cs) x)=c
  rw[if_neg (fun z=>n1 (by rw[z];exact hx))]
  exact lF n2 h1 h2
theorem y8:∀{ns cs:List Str} {k:Nat} {x y:Str},ns.Nodup->ns.length=cs.length->ns[k]? = some x->(eI (ns.zip cs)).map (fun kv=>if kv.1=Sum.inr x then (kv.1,V.str y) else kv)=eI (ns.zip (cs.set k y))
 | [],_,_,_,_,_,_,h=>nomatch h
 | _::_,[],_,_,_,_,h,_=>nomatch h
 | n::ns,c::cs,0,x,y,nd,hl,h=>by
  cases h
  obtain⟨n1,n2⟩:=U9.mp nd
  show(if (Sum.inr n:Key)=Sum.inr n then ((Sum.inr n:Key),V.str y) else _)::(eI (ns.zip cs)).map _=(Sum.inr n,V.str y)::eI (ns.zip cs)
  rw[if_pos rfl]
  congr 1
  conv=>rhs;rw[<-List.map_id (eI (ns.zip cs))]
  refine Yy fun kv hkv=>if_neg fun z=>n1 ?_
  obtain⟨q,hq,rfl⟩:=Uh.mp hkv
  have z:q.1=n:=Sum.inr.inj z
  rw[<-z]
  exact(List.of_mem_zip hq).1
 | n::ns,c::cs,k+1,x,y,nd,hl,h=>by
  obtain⟨n1,n2⟩:=U9.mp nd
  have hx:x∈ns:=J2 (show ns[k]? = some x from h)
  show(if (Sum.inr n:Key)=Sum.inr x then _ else ((Sum.inr n:Key),V.str c))::(eI (ns.zip cs)).map _=(Sum.inr n,V.str c)::eI (ns.zip (cs.set k y))
  rw[if_neg (fun z=>n1 (by rw[Sum.inr.inj z];exact hx)),y8 n2 (by simpa using hl) h]
theorem fc {ns cs:List Str}(hl:ns.length=cs.length):(ns.zip cs).map (·.1)=ns:=List.map_fst_zip (by omega)
theorem Ce {ns cs:List Str}(hl:ns.length=cs.length):(ns.zip cs).map (·.2)=cs:=List.map_snd_zip (by omega)
theorem Hk {ns cs:List Str}{k:Nat}{x y:Str}(nd:ns.Nodup)(hl:ns.length=cs.length)(h:ns[k]? = some x):putK (eI (ns.zip cs)) (.inr x) (.str y)=eI (ns.zip (cs.set k y)):=by
 unfold putK
 rw[gz,fB (by rw[fc hl];exact J2 h),if_pos (Option.isSome_some)]
 exact y8 nd hl h
theorem swap_perm {cs:List Str}{i j:Nat}{a b:Str}(hi:cs[i]? = some a)(hj:cs[j]? = some b):((cs.set i b).set j a).Perm cs:=by
 obtain⟨h1,rfl⟩:=Jt.mp hi
 obtain⟨h2,rfl⟩:=Jt.mp hj
 exact List.set_set_perm h1 h2
theorem iO (bk:List (Str×Str)):cy (aI bk)=bk:=by
 show(bk.map fG).map _=bk
 rw[U0]
 exact(Yy fun q _=>rfl).trans (List.map_id bk)
theorem Gz {y:Str}(hb:uG y)(hl:1<=y.length):bV (.str y)=true:=by
 show(!decide (V.str y=V.str (Str.ofString ""))&&iX y nH)=true
 rw[Fz,decide_eq_false (by omega),yf,Bool.not_false,U2,Y2]
 intro c hc
 rcases hb c hc with rfl|rfl<;>decide +kernel
theorem CC {ns:List Str}{bk:List (Str×Str)}(N:OP ns)(pm:(bk.map (·.1)).Perm ns)(hc:∀q∈bk,bV (.str q.2)=true)(fr:eV (bk.map (·.2))):cZ ns (aI bk)=true:=by
 have e:=LC (ns:=ns) (d:=aI bk) (ds:=bk.map fG) rfl (fun x hx=>by
  obtain⟨q,hq,rfl⟩:=Uh.mp hx
  exact hc q hq) N.nn N.nd N.ok
 rw[e,show cy (.list (bk.map fG))=bk from iO bk,decide_eq_true pm,U2]
 exact @decide_eq_true _ (Classical.propDecidable _) fr
theorem yD {w:Nat}:∀{bk:List (Str×Str)},(∀q∈bk,jo q.1=true/\jo q.2=true/\q.1.length+q.2.length+3<=w)->Gs (w*bk.length) 1 (bk.map fG)
 | [],_=>Gs.nil.mono (Um _) (Um _)
 | q::bk,h=>by
  have ih:=yD (w:=w) (bk:=bk) fun x hx=>h x (Jo _ hx)
  obtain⟨h1,h2,h3⟩:=h q Jr
  have g:Gd (q.1.length+1+(q.2.length+1)) 1 (fG q):=(Gs.cons (Gd.str (dp:=0) h1 (Je _)) (Gs.one (Gd.str h2 (Je _)))).tuple
  refine(Gs.cons g ih).mono ?_ (Je _)
  rw[Jn,Nat.mul_succ]
  omega
theorem CH {d:PyData}{ds:List PyData}(h:fH d = .list ds):LP d=ds.length:=by
 cases d<;>first|(cases h;rfl)|(exact nomatch h)
theorem II.of {d:PyData}{w dp:Nat}(g:Gd w dp d)(hw:w<=150000)(hd:dp<=64)(hl:LP d<=60):II d:=by
 refine⟨g.pz,Jh g.wt (by omega),g.shaped hd,fun ds e=>by rw[<-CH e];exact hl,fun q hq =>?_⟩
 have wt:(fH d).weight<=150000:=by rw[xh];exact Jh g.wt hw
 cases e:fH d with
 | list ds=>
  rw[e] at hq wt
  obtain⟨x,hx,rfl⟩:=Uh.mp (show q∈ds.map _ from hq)
  have hx:=gq (n:=150000) (by simpa only [PyData.weight] using wt) hx
  split
  ·simp only[PyData.weight,PyData.weightAll] at hx
   have:∀y:Str,y.cps.size=y.length:=fun _=>rfl
   simp only[this] at hx
   dsimp only
   omega
  ·exact Um _
 | _=>rw[e] at hq;exact nomatch hq
theorem EB {bk:List (Str×Str)}{zs BZ:List (PyData×V)}(e:zs.map (·.1)=bk.map fG)(p:BZ.Perm zs):∃wN:List (Str×Str),wN.Perm bk/\BZ.map (·.1)=wN.map fG:=by
 have pm:(BZ.map (·.1)).Perm (bk.map fG):=by rw[<-e];exact p.map _
 refine⟨cy (.list (BZ.map (·.1))),?_,?_⟩
 ·have:=iO bk
  conv=>rhs;rw[<-this]
  exact pm.map _
 ·have all:∀d∈BZ.map (·.1),∃q,d=fG q:=fun d hd=>by
   obtain⟨q,_,rfl⟩:=Uh.mp (pm.mem_iff.mp hd)
   exact⟨q,rfl⟩
  generalize BZ.map (·.1)=ds at all
  clear pm p e
  induction ds with
  | nil=>rfl
  | cons d ds ih=>
   obtain⟨q,rfl⟩:=all d Jr
   have:=ih fun d hd=>all d (Jo _ hd)
   show fG q::ds=fG q::(cy (.list ds)).map fG
   rw[<-this]
theorem CP {cs:List Str}(h:eV cs)(hl:2<=cs.length):∀x∈cs,1<=x.length:=fun x hx=>by
 apply Classical.byContradiction
 intro n
 have x0:sg x=[]:=Yu (by have:x.length=(sg x).length:=str_len x;omega)
 obtain⟨i,hi,rfl⟩:=Yt.mp hx
 have pw:=Ux.mp h
 by_cases i0:i=0
 ·subst i0
  have:=(pw 0 1 (by omega) (by omega) (by decide)).1
  rw[x0] at this
  exact this List.nil_prefix
 ·have:=(pw 0 i (by omega) hi (by omega)).2
  rw[x0] at this
  exact this List.nil_prefix
theorem Hc {x:Str}(h:uG x):jo x=true:=FF.mpr fun c hc=>by rcases h c hc with rfl|rfl<;>decide
theorem Ed {K:Ja}{G:Hp}{bk:List (Str×Str)}{as:List Addr}(hl:as.length=bk.length)(pJ:bk.length<=64)(az:∀q∈bk,jo q.1=true/\jo q.2=true)(h:∀(j:Nat) a q,as[j]? = some a->bk[j]? = some q->G a=some (.tup [.str q.1,.str q.2])):
  ∃zs:List (PyData×V),zs.map (·.1)=bk.map fG/\zs.map (·.2)=as.map V.ref/\Mx K G zs:=by
 have l1:(bk.map fG).length=(as.map V.ref).length:=by rw[Jc,Jc,hl]
 refine⟨(bk.map fG).zip (as.map V.ref),List.map_fst_zip (by omega),List.map_snd_zip (by omega),?_,?_,?_⟩
 ·rw[U4,Jc];omega
 ·intro z hz
  obtain⟨j,hj⟩:=Ut.mp hz
  have z1:=U5.mp hj
  rw[Ji,Ji] at z1
  obtain⟨e1,e2⟩:=z1
  cases h1:bk[j]? with
  | none=>rw[h1] at e1;cases e1
  | some q=>
   cases h2:as[j]? with
   | none=>rw[h2] at e2;cases e2
   | some a=>
    rw[h1] at e1;rw[h2] at e2
    rw[<-Option.some.inj e1,<-Option.some.inj e2]
    exact MM (h j a q h2 h1) (bL wA (bL wA mr))
 ·intro z hz
  have z1:=(List.of_mem_zip (a:=z.1) (b:=z.2) hz).1
  obtain⟨q,hq,e⟩:=Uh.mp z1
  rw[<-e]
  have h1:=az q hq
  refine(fun h=>⟨h.1,Jh h.2 (by decide)⟩:Sh 1 (fG q)->Sh 2 (fG q)) (Sh.tuple (n:=0) (ds:=[.str q.1,.str q.2]) fun d hd =>?_)
  ·simp only[Jv,Ue,or_false] at hd
   rcases hd with rfl|rfl
   ·exact Sh.str (dM fun ch hc=>by have:=xK h1.1 ch hc;omega)
   ·exact Sh.str (dM fun ch hc=>by have:=xK h1.2 ch hc;omega)
theorem wQ {K:Ja}{G G':Hp}{bk:List (Str×Str)}{zs BZ:List (PyData×V)}{l:Addr}(e:zs.map (·.1)=bk.map fG)(M:Mx K G zs)(p:BZ.Perm zs)(s:ao G G')(hl:G' l=some (.lst (BZ.map (·.2)))):
  ∃wN:List (Str×Str),wN.Perm bk/\Den K G' (aI wN) (.ref l):=by
 obtain⟨wN,h1,h2⟩:=EB e p
 refine⟨wN,h1,Den.list (bb.of hl) ?_⟩
 show aN K G' (wN.map fG) _
 rw[<-h2]
 refine aN.of_get (by rw[Jc,Jc]) fun j d v hd hv =>?_
 rw[Ji] at hd hv
 cases ez:BZ[j]? with
 | none=>rw[ez] at hd;cases hd
 | some z=>
  rw[ez] at hd hv
  cases hd;cases hv
  exact(M.d z (p.mem_iff.mp (J2 ez))).same s
structure Good3 (nE rS tG:List (Str×Str))(near bB:Int):Prop where
 why:jW (aI nE) (aI rS) (aI tG) (.int near) (.int bB)=none
 n1:(nE.map (·.1)).Perm aE
 l1:nE.length=11
 l2:rS.length=4
 l3:tG.length=9
 sz:∀q,q∈nE∨q∈rS∨q∈tG->jo q.1=true/\jo q.2=true/\q.1.length<=8/\q.2.length<=11
 fr:near.natAbs<10/\bB.natAbs<20
def EH (K:Ja):Sp:=fun vs H Q _=>m7 fun(b c:Addr) (t:Int)=>vs=[.ref b]/\Bx H b c t/\0<=t/\t<30000000 /\
 ∀(l:Addr) (r1 r2 r3:V) (nE rS tG:List (Str×Str)) (near bB:Int) (H':Hp) (t':Int),Good3 nE rS tG near bB->H l=none->H' l=some (.lst [r1,r2,r3,.int near,.int bB])->aN K (fK H' b c) [aI nE,aI rS,aI tG] [r1,r2,r3]->Step b c H H' t t' 1500->Q (.ref l) H'
theorem sI {ns cs:List Str}{most:Nat}(hn:∀x∈ns,jo x=true/\x.length<=8)(hm:most<=11)(hc:∀x∈cs,uG x/\x.length<=most):∀q∈ns.zip cs,jo q.1=true/\jo q.2=true/\q.1.length<=8/\q.2.length<=11:=fun q hq=>by
 obtain⟨h1,h2⟩:=List.of_mem_zip (a:=q.1) (b:=q.2) hq
 exact⟨(hn _ h1).1,Hc (hc _ h2).1,(hn _ h1).2,Jh (hc _ h2).2 hm⟩
theorem lq:(∀x∈aE,jo x=true/\x.length<=8)/\(∀x∈bP,jo x=true/\x.length<=8)/\∀x∈bt,jo x=true/\x.length<=8:=by decide +kernel
theorem sM {ns cs:List Str}{bk:List (Str×Str)}(N:OP ns)(hl:ns.length=cs.length)(h2:2<=cs.length)(hb:∀x∈cs,uG x)(fr:eV cs)(p:bk.Perm (ns.zip cs)):cZ ns (aI bk)=true:=by
 have p1:=p.map (·.1)
 have p2:=p.map (·.2)
 rw[fc hl] at p1
 rw[Ce hl] at p2
 refine CC N p1 (fun q hq =>?_) (fr.perm p2.symm)
 have Mm:q.2∈cs:=p2.mem_iff.mp (Yx hq)
 exact Gz (hb _ Mm) (CP fr h2 _ Mm)
theorem Hh {bk wN:List (Str×Str)}{x:Str}(p:wN.Perm bk)(nd:(bk.map (·.1)).Nodup)(hx:x∈bk.map (·.1)):aX wN x=aX bk x:=by
 have Vg:=(p.map (·.1)).nodup_iff.mpr nd
 have of:∀{bs:List (Str×Str)},(bs.map (·.1)).Nodup->∀y,(x,y)∈bs->aX bs x=y:=fun{bs}=>by
  induction bs with
  | nil=>intro _ y h;exact nomatch h
  | cons q r ih=>
   intro nd y h
   rw[J0] at nd
   obtain⟨n1,n2⟩:=U9.mp nd
   unfold aX
   rcases Jv.mp h with e|h
   ·rw[<-e];exact if_pos rfl
   ·rw[if_neg (fun z=>n1 (by rw[z];exact Yx (f:=(·.1)) h))]
    exact ih n2 y h
 obtain⟨q,hq,rfl⟩:=Uh.mp hx
 rw[of nd q.2 hq,of Vg q.2 (p.mem_iff.mpr hq)]
theorem C4 {bk wN:List (Str×Str)}{n f:Int}(p:wN.Perm bk)(hn:bk.map (·.1)=aE):gh wN n f=gh bk n f:=by
 have e:∀x∈aE,aX wN x=aX bk x:=fun x hx=>Hh p (by rw[hn];exact cv) (by rw[hn];exact hx)
 unfold gh
 simp only[Yd,List.any_nil,Bool.or_false]
 rw[e _ (by decide +kernel),e _ (by decide +kernel),e _ (by decide +kernel),e _ (by decide +kernel)]
theorem EU {nE rS tG:List (Str×Str)}{n f:Int}(h1:cZ aE (aI nE)=true)(h2:cZ bP (aI rS)=true)(h3:cZ bt (aI tG)=true)(n2:2<=n)(n8:n<=8)(nf:n<f)(JT:f<=16)(hf:gh nE n f=false):jW (aI nE) (aI rS) (aI tG) (.int n) (.int f)=none:=by
 unfold jW AD
 rw[h1,h2,h3,if_neg (by decide),if_neg (by decide),if_neg (by decide)]
 rw[show pq (.int n)=true from by show(decide (2<=n)&&decide (n<=8))=true;rw[decide_eq_true n2,decide_eq_true n8];rfl,if_neg (by decide)]
 have:uT (aI nE) (.int n) (.int f)=true:=by
  show(decide (n<f)&&(decide (f<=16) && !gh (cy (aI nE)) n f))=true
  rw[iO,hf,decide_eq_true nf,decide_eq_true JT];rfl
 rw[this,if_neg (by decide)]
theorem vO {H:Hp}{dd:Addr}{ns cs:List Str}{k:Nat}{x y:Str}(h:H dd=some (.dK (eI (ns.zip cs))))(nd:ns.Nodup)(hl:ns.length=cs.length)(hx:ns[k]? = some x)(sm:ns.length<1000):
  ∃H',AH H dd (.dK (eI (ns.zip (cs.set k y)))) H'/\pY H dd (.str x) (.str y) H':=by
 refine⟨_,⟨rfl⟩,?_⟩
 rw[<-Hk nd hl hx]
 exact pY.k (k := .inr x) h (J1 (show(eI (ns.zip cs)).length<=1000 by unfold eI;rw[Jc,U4];omega) (by decide))
theorem EG {H:Hp}{dd:Addr}{ns cs:List Str}{k:Nat}{x c:Str}(h:H dd=some (.dK (eI (ns.zip cs))))(nd:ns.Nodup)(hl:ns.length=cs.length)(hx:ns[k]? = some x)(hc:cs[k]? = some c):dz H dd (.str x) (some (.str c)):=by
 have e:dU (eI (ns.zip cs)) (.inr x)=some (.str c):=by rw[fB (by rw[fc hl];exact J2 hx),lF nd hx hc]
 rw[<-e]
 exact dz.k (k := .inr x) h
theorem Ax {ns:List Str}{cs:List Str}(nd:ns.Nodup)(hl:ns.length=cs.length):cz [] ((ns.map (Sum.inr:Str->Key)).zip (cs.map V.str))=eI (ns.zip cs):=by
 have e:(ns.map (Sum.inr:Str->Key)).zip (cs.map V.str)=eI (ns.zip cs):=by
  unfold eI
  rw[List.zip_map]
  rfl
 rw[e,eJ (by rw[fc hl];exact nd)]
theorem FQ:∀(j:Nat) (c:Nat),(Str.ofString "abcd").cps[j]? = some c->bP[j]? = some ⟨#[c]⟩:=by
 intro j c h
 have hj:j<4:=(Uv.mp h).1
 match j,hj with
 | 0,_=>cases h;rfl
 | 1,_=>cases h;rfl
 | 2,_=>cases h;rfl
 | 3,_=>cases h;rfl
structure uU (K:Ja)(b c:Addr)(H:Hp)(p:Addr)(bk:List (Str×Str))(as:List Addr):Prop where
 at':H p=some (.lst (as.map V.ref))
 pb:p≠b
 pc:p≠c
 len:as.length=bk.length
 prs:∀(j:Nat) a q,as[j]? = some a->bk[j]? = some q->fK H b c a=some (.tup [.str q.1,.str q.2])
theorem uU.step {K:Ja}{b c p:Addr}{H H':Hp}{t t' N:Int}{bk:List (Str×Str)}{as:List Addr}(h:uU K b c H p bk as)(s:Step b c H H' t t' N):uU K b c H' p bk as:=
 ⟨s.old h.at' h.pb h.pc,h.pb,h.pc,h.len,fun j a q e1 e2=>s.sm _ _ (h.prs j a q e1 e2)⟩
section
variable {P:Program}{w:World}{K:Ja}{mg:Str->Option Value}{base:Heap}{f:Addr}{fd:FuncData}
theorem bI:aA ["_law_state", "_law_kinds_here", "_law_near", "_law_far", "_law_one", "_law_other", "_law_kept", "_law_spots", "_law_sizes_here"] ["_law_state"] (aj (top iA)):=⟨rfl,rfl,rfl,by decide +kernel,rfl,by decide +kernel,by decide +kernel⟩
theorem D0 (F:bO K "_law_parts" "_law_parts" (top iA) f fd)(T:Nm mg)(cA:mg "dict" = none)(u5:Fn P w K mg base 1 "_law_kinds" [] (oA aE))(iQ:Fn P w K mg base 1 "_law_sizes" [] (oA bt))(aG:Fn P w K mg base 1 "_law_take" ["_law_state", "_law_many"] ua)(eF:Fn P w K mg base 2 "_law_mixed" ["_law_state", "_law_some"] (yQ K))(iK:Fn P w K mg base 3 "_law_codes" ["_law_state", "_law_many", "_law_most"] EO):bh P w K mg base eP 4 f fd ["_law_state"] (EH K):=by
 refine F.ok bI (fun vs H Q E h =>?_) (fun cG A outer s H vs Q E hr h =>?_)
 ·obtain⟨b,c,t,rfl,_⟩:=h
  rfl
 obtain⟨b,c,t,rfl,bx,t0,t1,q⟩:=h
 have eT:=hr.units
 have hu:=nP hr
 have small:∀{n:Nat},n<=10000->n<sizeLine:=fun h=>J1 h (by decide)
 refine⟨_,(af (aF (i:=1) bI.nd rfl (Or.inl rfl) (xY rfl rfl cA rfl T.n_zip (aa (wB (u5.mono (by first|decide|exact Je _|omega)) hr rfl) (aa (aB (iK.mono (by decide)) hr rfl (aa (pv 0) (aa ah (aa (bp (fI K) (fE (aa ah (aa ah (aa ah (aa ah ae))))) (aB (aG.mono (by decide)) hr rfl (aa (pv 0) (aa ah ae))) (fun _ _=>rfl)) ae)))) ae))))
  (af (aF (i:=2) bI.nd rfl (Or.inl rfl) (aH cE ah (aB (aG.mono (by decide)) hr rfl (aa (pv 0) (aa ah ae)))))
  (af (aF (i:=3) bI.nd rfl (Or.inl rfl) (aH cE (aH cE (pv 2) ah) (aB (aG.mono (by decide)) hr rfl (aa (pv 0) (aa (aH jz ah (pv 2)) ae)))))
  (af (d7 PassesOwn.never rfl (kK K (fu (aa (fu (aa aq (aa aq ae))) (aa (fu (aa aq (aa aq ae))) ae)))) (tupK K 2 rfl (aR (aD (i:=4) bI.nd rfl (Or.inl rfl)) (aR (aD (i:=5) bI.nd rfl (Or.inl rfl)) cu))) (ag (bA (aQ l6 (aH cE (ax (ia K) rfl T.n_len (by rfl) (aa (bM hu (pv 1) (pv 5) (fun _ _=>rfl)) ae)) (pv 3)) (aH cE (ax (ia K) rfl T.n_len (by rfl) (aa (bM hu (pv 1) (pv 4) (fun _ _=>rfl)) ae)) (pv 2)) (aV _)) (af (aF (i:=6) bI.nd rfl (Or.inl rfl) (bM hu (pv 1) (pv 4) (fun _ _=>rfl)))
  (af (rC hu (pv 1) (pv 4) (bM hu (pv 1) (pv 5) (fun _ _=>rfl)) rfl)
  (ag (rC hu (pv 1) (pv 5) (pv 6) rfl)))) aM)))
  (af (aF (i:=7) bI.nd rfl (Or.inl rfl) (u7 rfl rfl T.n_list rfl T.n_zip (aa aq (aa (aB (iK.mono (by decide)) hr rfl (aa (pv 0) (aa ah (aa ah ae)))) ae))))
  (af (aF (i:=8) bI.nd rfl (Or.inl rfl) (wR rfl rfl T.n_list rfl T.n_zip (aa (wB (iQ.mono (by first|decide|exact Je _|omega)) hr rfl) (aa (aB (iK.mono (by decide)) hr rfl (aa (pv 0) (aa ah (aa (bp (fI K) (fE (aa ah (aa ah (aa ah ae)))) (aB (aG.mono (by decide)) hr rfl (aa (pv 0) (aa ah ae))) (fun _ _=>rfl)) ae)))) ae))))
  (ag (av (fE (aa (aB (eF.mono (by decide)) hr rfl (aa (pv 0) (aa (BM rfl rfl T.n_list (pv 1)) ae))) (aa (aB (eF.mono (by decide)) hr rfl (aa (pv 0) (aa (pv 7) ae))) (aa (aB (eF.mono (by decide)) hr rfl (aa (pv 0) (aa (pv 8) ae))) (aa (pv 2) (aa (pv 3) ae)))))))))))))),?_⟩
 dsimp only
 refine fA (te:=Wm _ _) (fun v H'=>∃(dd:Addr) (cs:List Str) (t':Int),v = .ref dd/\cs.length=11/\eV cs/\(∀x∈cs,uG x/\x.length<=11)/\H dd=none/\H' dd=some (.dK (eI (aE.zip cs)))/\Step b c H H' t t' 300) (fun Qn qn =>?_) ?_
 ·refine⟨rfl,fun pk H1 n1=>⟨_,rfl,by show 4<=sizeLine;decide,fun lp H2 n2=>⟨_,rfl,b,c,t,4,rfl,(bx.same n1.same).same n2.same,t0,by omega,by decide,by decide,fun r H3 r0 r1 dv =>?_⟩⟩⟩
  obtain⟨pb,pc⟩:=bx.aO n1.nn
  obtain⟨lb,lc⟩:=(bx.same n1.same).aO n2.nn
  have Zm:=dv.old (n2.same _ _ n1.at) pb pc
  have Lm:=dv.old n2.at lb lc
  have dv:=(Step.same bx (n1.same.trans n2.same)).trans dv
  obtain⟨m,hm,m4,m9⟩:∃m:Nat,([V.int 4,V.int 4,V.int 5,V.int 9]:List V)[r.toNat]? = some (.int (m:Nat))/\4<=m/\m<=9:=by
   have:r=0∨r=1∨r=2∨r=3:=by omega
   rcases this with rfl|rfl|rfl|rfl
   ·exact⟨4,rfl,by decide,by decide⟩
   ·exact⟨4,rfl,by decide,by decide⟩
   ·exact⟨5,rfl,by decide,by decide⟩
   ·exact⟨9,rfl,by decide,by decide⟩
  have mm:11<=2^m:=Jh (show 11<=2^4 by decide) (Nat.pow_le_pow_right (by decide) m4)
  refine .inl ⟨lp,_,r,.int (m:Nat),rfl,rfl,bb.of Lm,cX r0 hm,b,c,t+1,11,m,rfl,dv.bx,by omega,by omega,by decide,by decide,mm,by omega,fun l cs H4 t4 cl fr cb E6 pU fR =>?_⟩
  have Xm:=fR.old Zm pb pc
  have fR:=dv.trans fR
  refine⟨pk,l,aE.map Sum.inr,cs.map V.str,rfl,bb.of Xm,bb.of pU,by rw[Jc,Jc,cl];rfl,by decide,fun d H5 n5 =>?_⟩
  rw[Ax cv (by rw[cl];rfl)] at n5
  exact qn _ _ ⟨d,cs,t4,rfl,cl,fr,fun x hx=>⟨(cb x hx).1,by have:=(cb x hx).2;omega⟩,fR.fresh bx n5.nn,n5.at,(fR.dI n5).more (by omega)⟩
 rintro v H1 ⟨dd,cs,t2,rfl,cl,fr,cb,hd0,LH,j1⟩
 obtain⟨db,dc⟩:=bx.aO hd0
 have Wz:=j1.ub
 have lo1:=j1.le
 refine gn ?_
 refine⟨_,rfl,b,c,t2,7,rfl,j1.bx,by omega,by omega,by decide,by decide,fun r2 H2 r20 r21 eK =>.inl ⟨_,_,rfl,rfl,gn ?_⟩⟩
 have Kq:=eK.old LH db dc
 have eK:=j1.trans eK
 refine⟨_,rfl,.inl ⟨_,_,rfl,rfl,_,rfl,_,rfl,_,_,rfl,rfl,b,c,_,_,rfl,eK.bx,by omega,by omega,by omega,by omega,fun r3 H3 r30 r31 dv =>.inl ⟨_,_,rfl,rfl,gn ?_⟩⟩⟩
 have YJ:=dv.old Kq db dc
 have dv:=eK.trans dv
 obtain⟨near,en⟩:∃near:Int,near=2+r2:=⟨_,rfl⟩
 obtain⟨bB,ef⟩:∃bB:Int,bB=2+r2+1+r3:=⟨_,rfl⟩
 rw[<-ef,<-en]
 have n2:2<=near:=by omega
 have n8:near<=8:=by omega
 have nf:near<bB:=by omega
 have JT:bB<=16:=by omega
 have kl:aE.length=cs.length:=by rw[cl];rfl
 have sz:∀{x:Str},x.length<=11->x.length<=sizeLine:=fun h=>Jh h (by decide)
 dsimp only
 refine iq (t:=JY _ _ _) (fun σ H'=>∃(ib:List Str) (x4 x5 x6:Option V) (t':Int),σ=[some (.ref b),some (.ref dd),some (.int near),some (.int bB),x4,x5,x6,none,none]/\ib.Perm cs/\H' dd=some (.dK (eI (aE.zip ib)))/\gh (aE.zip ib) near bB=false/\Step b c H H' t t' 310) (fun Nx nx =>?_) ?_
 ·refine⟨by show 2<=sizeLine;decide,fun p1 H4 n4=>⟨by show 2<=sizeLine;decide,fun p2 H5 n5=>⟨by show 2<=sizeLine;decide,fun p3 H6 n6=>⟨p3,rfl,⟨_,br.of n6.at⟩,?_⟩⟩⟩⟩
  have gb:=((dv.dI n4).dI n5).dI n6
  have QG:=n6.same _ _ (n5.same _ _ (n4.same _ _ YJ))
  have h1:=n6.same _ _ (n5.same _ _ n4.at)
  have h2:=n6.same _ _ n5.at
  have h3:=n6.at
  have Ti:∀{p:Addr} {o:List V},H6 p=some (.tup o)->p≠dd:=fun h z=>by rw[z,QG] at h;cases h
  have e1:=Ti h1
  have e2:=Ti h2
  have e3:=Ti h3
  refine lL (N:=2) (fun k σ H'=>∃(ib:List Str) (x4 x5 x6:Option V),σ=[some (.ref b),some (.ref dd),some (.int near),some (.int bB),x4,x5,x6,none,none]/\ib.Perm cs/\H' dd=some (.dK (eI (aE.zip ib)))/\(∀p,p≠dd->H' p=H6 p)/\(0<k->∀x y,ib[5]? = some x->ib[8]? = some y->¬((y.length:Int)+bB<x.length+near))/\(1<k->∀x y,ib[6]? = some x->ib[9]? = some y->¬((y.length:Int)+bB<x.length+near))/\∃t',Step b c H H' t t' 310) ⟨cs,_,_,_,rfl,List.Perm.refl _,QG,fun _ _=>rfl,(fun h=>absurd h (by decide)),(fun h=>absurd h (by decide)),_,gb.more (by omega)⟩ ?_ ?_
  ·rintro k σ H7 hk ⟨ib,x4,x5,x6,rfl,pm,hd7,k7,o1,o2,t7,jf⟩
   have WW:=(k7 _ e1).trans h1
   have Zs:=(k7 _ e2).trans h2
   have QR:=(k7 _ e3).trans h3
   have Wh:ib.length=11:=by rw[pm.length_eq,cl]
   have Te:aE.length=ib.length:=by rw[Wh];rfl
   have Qs:∀{i:Nat} {x:Str},ib[i]? = some x->x.length<=11:=fun h=>(cb _ (pm.mem_iff.mp (J2 h))).2
   obtain⟨c5,h5⟩:∃x,ib[5]? = some x:=⟨_,Jd (by omega)⟩
   obtain⟨c6,h6⟩:∃x,ib[6]? = some x:=⟨_,Jd (by omega)⟩
   obtain⟨c8,h8⟩:∃x,ib[8]? = some x:=⟨_,Jd (by omega)⟩
   obtain⟨c9,h9⟩:∃x,ib[9]? = some x:=⟨_,Jd (by omega)⟩
   have gd:∀{i:Nat} {x y:Str},aE[i]? = some x->ib[i]? = some y->dz H7 dd (.str x) (some (.str y)):=fun hx hy=>EG hd7 cv Te hx hy
   have swap:∀{i j:Nat} {x y a d:Str},aE[i]? = some x->aE[j]? = some y->ib[i]? = some a->ib[j]? = some d->∃H8 H9,pY H7 dd (.str x) (.str d) H8/\pY H8 dd (.str y) (.str a) H9/\H9 dd=some (.dK (eI (aE.zip ((ib.set i d).set j a))))/\(∀p,p≠dd->H9 p=H6 p)/\((ib.set i d).set j a).Perm cs/\Step b c H H9 t t7 310:=fun{i j x y a d} hx hy ha hd=>by
    obtain⟨H8,c8,d8⟩:=vO (y:=d) hd7 cv Te hx (by decide)
    obtain⟨H9,c9,d9⟩:=vO (y:=a) c8.at cv (by rw[Y6];exact Te) hy (by decide)
    exact⟨H8,H9,d8,d9,c9.at,fun p hp=>by rw[c9.ne hp,c8.ne hp];exact k7 p hp,(swap_perm ha hd).trans pm,(jf.Df c8 hd0 db dc).Df c9 hd0 db dc⟩
   obtain rfl|rfl:k=0∨k=1:=by omega
   ·refine⟨⟨_,_,br.of QR,rfl⟩,?_⟩
    rintro w' H8 ⟨rfl,hy⟩
    have e:=hy _ (br.of QR)
    obtain rfl:V.ref p1=w':=Option.some.inj e
    refine⟨p1,_,rfl,br.of WW,rfl,_,_,rfl,_,_,rfl,rfl,?_⟩
    refine⟨_,rfl,_,rfl,dd,_,rfl,gd (i:=8) rfl h8,_,_,rfl,⟨sz (Qs h8),rfl⟩,_,rfl,.inl ⟨_,_,rfl,rfl,_,rfl,_,rfl,dd,_,rfl,gd (i:=5) rfl h5,_,_,rfl,⟨sz (Qs h5),rfl⟩,_,rfl,.inl ⟨_,_,rfl,rfl,_,_,rfl,rfl,_,rfl,eU (fun c =>?_) (fun c =>?_)⟩⟩⟩
    ·have c:=of_decide_eq_true c
     obtain⟨H9,H10,d9,d10,hd10,Ot,pm10,hU⟩:=swap (i:=5) (j:=8) (x := "jump") (y := "farjump") rfl rfl h5 h8
     refine⟨_,rfl,_,rfl,dd,_,rfl,gd (i:=5) rfl h5,gn ⟨_,rfl,_,rfl,dd,_,rfl,gd (i:=8) rfl h8,_,rfl,_,rfl,dd,_,rfl,d9,_,rfl,_,rfl,_,rfl,dd,_,rfl,d10,?_⟩⟩
     refine⟨_,_,_,_,rfl,pm10,hd10,Ot,fun _ x y hx hy =>?_,(fun h=>absurd h (by decide)),t7,hU⟩
     rw[Yb (by decide),Yg (by omega)] at hx
     rw[Yg (by rw[Y6];omega)] at hy
     cases hx;cases hy
     omega
    ·have c:¬_:=fun z=>c (decide_eq_true z)
     refine⟨ib,_,_,_,rfl,pm,hd7,k7,fun _ x y hx hy =>?_,(fun h=>absurd h (by decide)),t7,jf⟩
     rw[h5] at hx;rw[h8] at hy
     cases hx;cases hy
     exact c
   ·refine⟨⟨_,_,br.of QR,rfl⟩,?_⟩
    rintro w' H8 ⟨rfl,hy⟩
    have e:=hy _ (br.of QR)
    obtain rfl:V.ref p2=w':=Option.some.inj e
    refine⟨p2,_,rfl,br.of Zs,rfl,_,_,rfl,_,_,rfl,rfl,?_⟩
    have o1:=o1 (by decide)
    refine⟨_,rfl,_,rfl,dd,_,rfl,gd (i:=9) rfl h9,_,_,rfl,⟨sz (Qs h9),rfl⟩,_,rfl,.inl ⟨_,_,rfl,rfl,_,rfl,_,rfl,dd,_,rfl,gd (i:=6) rfl h6,_,_,rfl,⟨sz (Qs h6),rfl⟩,_,rfl,.inl ⟨_,_,rfl,rfl,_,_,rfl,rfl,_,rfl,eU (fun c =>?_) (fun c =>?_)⟩⟩⟩
    ·have c:=of_decide_eq_true c
     obtain⟨H9,H10,d9,d10,hd10,Ot,pm10,hU⟩:=swap (i:=6) (j:=9) (x := "zero") (y := "farzero") rfl rfl h6 h9
     refine⟨_,rfl,_,rfl,dd,_,rfl,gd (i:=6) rfl h6,gn ⟨_,rfl,_,rfl,dd,_,rfl,gd (i:=9) rfl h9,_,rfl,_,rfl,dd,_,rfl,d9,_,rfl,_,rfl,_,rfl,dd,_,rfl,d10,?_⟩⟩
     refine⟨_,_,_,_,rfl,pm10,hd10,Ot,fun _ x y hx hy =>?_,fun _ x y hx hy =>?_,t7,hU⟩
     ·rw[Yb (by decide),Yb (by decide)] at hx hy
      exact o1 x y hx hy
     ·rw[Yb (by decide),Yg (by omega)] at hx
      rw[Yg (by rw[Y6];omega)] at hy
      cases hx;cases hy
      omega
    ·have c:¬_:=fun z=>c (decide_eq_true z)
     refine⟨ib,_,_,_,rfl,pm,hd7,k7,fun _=>o1,fun _ x y hx hy =>?_,t7,jf⟩
     rw[h6] at hx;rw[h9] at hy
     cases hx;cases hy
     exact c
  ·rintro σ H7 ⟨ib,x4,x5,x6,rfl,pm,hd7,k7,o1,o2,t7,jf⟩
   have Wh:ib.length=11:=by rw[pm.length_eq,cl]
   refine⟨⟨_,br.of ((k7 _ e3).trans h3),Je _⟩,nx _ _ ⟨ib,_,_,_,t7,rfl,pm,hd7,?_,jf⟩⟩
   obtain⟨c5,h5⟩:∃x,ib[5]? = some x:=⟨_,Jd (by omega)⟩
   obtain⟨c6,h6⟩:∃x,ib[6]? = some x:=⟨_,Jd (by omega)⟩
   obtain⟨c8,h8⟩:∃x,ib[8]? = some x:=⟨_,Jd (by omega)⟩
   obtain⟨c9,h9⟩:∃x,ib[9]? = some x:=⟨_,Jd (by omega)⟩
   unfold gh
   simp only[Yd,List.any_nil,Bool.or_false]
   have g5:aX (aE.zip ib) (Str.ofString "jump")=c5:=lF cv (k:=5) rfl h5
   have g6:aX (aE.zip ib) (Str.ofString "zero")=c6:=lF cv (k:=6) rfl h6
   have g8:aX (aE.zip ib) (Str.ofString ("far" ++ "jump"))=c8:=lF cv (k:=8) (by rfl) h8
   have g9:aX (aE.zip ib) (Str.ofString ("far" ++ "zero"))=c9:=lF cv (k:=9) (by rfl) h9
   rw[g5,g6,g8,g9,decide_eq_false (o1 (by decide) _ _ h5 h8),decide_eq_false (o2 (by decide) _ _ h6 h9)]
   rfl
 rintro σ H4 ⟨cs1,x4,x5,x6,t4,rfl,pm1,hd4,hF,fR⟩
 have Wn:=fR.ub
 have V2:=fR.le
 have Qx:cs1.length=11:=by rw[pm1.length_eq,cl]
 have ZX:eV cs1:=fr.perm pm1.symm
 have Wb:∀x∈cs1,uG x/\x.length<=11:=fun x hx=>cb x (pm1.mem_iff.mp hx)
 refine fA (te:=Ww _ _) (fun v H'=>∃(p:Addr) (as:List Addr) (cs:List Str) (t':Int),v = .ref p/\cs.length=4/\eV cs/\(∀x∈cs,uG x/\x.length<=11)/\uU K b c H' p (bP.zip cs) as/\Step b c H4 H' t4 t' 300) (fun Qn qn =>?_) ?_
 ·refine⟨_,rfl,b,c,t4,4,3,rfl,fR.bx,by omega,by omega,by decide,by decide,by decide,by decide,fun l cs2 H5 t5 cl2 fr2 cb2 E6 pU cB =>?_⟩
  refine⟨"abcd",l,cs2.map V.str,rfl,bb.of pU,by decide +kernel,by decide +kernel,by rw[Jc,cl2];decide +kernel,fun H6 p as s6 Hg qL al hk=>qn _ _ ⟨p,as,cs2,t5,rfl,cl2,fr2,fun x hx=>⟨(cb2 x hx).1,by have:=(cb2 x hx).2;omega⟩,⟨qL,(cB.bx.aO Hg).1,(cB.bx.aO Hg).2,by rw[al,U4,cl2];decide +kernel,fun j a qq ha hq =>?_⟩,(cB.trans (Step.same cB.bx s6)).more (by omega)⟩⟩
  have z:=U5.mp hq
  have hj:j<(Str.ofString "abcd").cps.size:=by rw[<-al];exact(Jt.mp ha).1
  have ex:=J9 hj
  obtain⟨u1,u2⟩:=hk j a _ (.str qq.2) ha ex (by rw[Ji,z.2];rfl)
  have e1:=FQ j _ ex
  rw[z.1] at e1
  rw[<-Option.some.inj e1] at u2
  rw[bW (cB.bx.aO u1).1 (cB.bx.aO u1).2]
  exact u2
 rintro v H5 ⟨p5,as5,cs2,t5,rfl,cl2,fr2,cb2,P5,cB⟩
 have QK:=cB.old hd4 db dc
 have VQ:=cB.ub
 have Wu:=cB.le
 refine gn ?_
 refine fA (te:=V5 _ _) (fun v H'=>∃(p:Addr) (as:List Addr) (cs:List Str) (t':Int),v = .ref p/\cs.length=9/\eV cs/\(∀x∈cs,uG x/\x.length<=11)/\uU K b c H' p (bt.zip cs) as/\Step b c H5 H' t5 t' 300) (fun Qn qn =>?_) ?_
 ·refine⟨rfl,fun pk H6 n6=>⟨_,rfl,by show 3<=sizeLine;decide,fun lp H7 n7=>⟨_,rfl,b,c,t5,3,rfl,(cB.bx.same n6.same).same n7.same,by omega,by omega,by decide,by decide,fun r H8 r0 r1 eG =>?_⟩⟩⟩
  obtain⟨pb,pc⟩:=cB.bx.aO n6.nn
  obtain⟨lb,lc⟩:=(cB.bx.same n6.same).aO n7.nn
  have WN:=eG.old (n7.same _ _ n6.at) pb pc
  have QT:=eG.old n7.at lb lc
  have eG:=(Step.same cB.bx (n6.same.trans n7.same)).trans eG
  obtain⟨m,hm,m4,m9⟩:∃m:Nat,([V.int 4,V.int 5,V.int 8]:List V)[r.toNat]? = some (.int (m:Nat))/\4<=m/\m<=8:=by
   have:r=0∨r=1∨r=2:=by omega
   rcases this with rfl|rfl|rfl
   ·exact⟨4,rfl,by decide,by decide⟩
   ·exact⟨5,rfl,by decide,by decide⟩
   ·exact⟨8,rfl,by decide,by decide⟩
  have mm:9<=2^m:=Jh (show 9<=2^4 by decide) (Nat.pow_le_pow_right (by decide) m4)
  refine .inl ⟨lp,_,r,.int (m:Nat),rfl,rfl,bb.of QT,cX r0 hm,b,c,t5+1,9,m,rfl,eG.bx,by omega,by omega,by decide,by decide,mm,by omega,fun l cs3 H9 t9 cl3 fr3 cb3 E6 pU kW =>?_⟩
  have W5:=kW.old WN pb pc
  have kW:=eG.trans kW
  refine⟨pk,l,bt.map V.str,cs3.map V.str,rfl,bb.of W5,bb.of pU,fun H10 p as DL Hg qL al hk=>qn _ _ ⟨p,as,cs3,t9,rfl,cl3,fr3,fun x hx=>⟨(cb3 x hx).1,by have:=(cb3 x hx).2;omega⟩,⟨qL,(kW.bx.aO Hg).1,(kW.bx.aO Hg).2,by rw[al,Jc,Jc,U4],fun j a qq ha hq =>?_⟩,(kW.trans (Step.same kW.bx DL)).more (by omega)⟩⟩
  have z:=U5.mp hq
  obtain⟨u1,u2⟩:=hk j a (.str qq.1) (.str qq.2) ha (by rw[Ji,z.1];rfl) (by rw[Ji,z.2];rfl)
  rw[bW (kW.bx.aO u1).1 (kW.bx.aO u1).2]
  exact u2
 rintro v H6 ⟨p6,as6,cs3,t6,rfl,cl3,fr3,cb3,P6,gb⟩
 have QG:=gb.old QK db dc
 have P5:=P5.step gb
 have W6:=gb.ub
 have Xd:=gb.le
 refine gn ?_
 have Mp:=sI lq.1 (Je 11) Wb
 have Nv:=sI lq.2.1 (Je 11) cb2
 have My:=sI lq.2.2 (Je 11) cb3
 have XN:(aE.zip cs1).length=11:=by rw[U4,Qx];rfl
 have VC:(bP.zip cs2).length=4:=by rw[U4,cl2];rfl
 have Xu:(bt.zip cs3).length=9:=by rw[U4,cl3];rfl
 have OL:=(fR.trans cB).trans gb
 refine⟨_,rfl,_,rfl,dd,_,rfl,QG,fun H7 p7 as7 s7 Hg qL al hk =>?_⟩
 have jf:=Step.same gb.bx s7
 have P5:=P5.step jf
 have P6:=P6.step jf
 obtain⟨zs,ez1,ez2,M⟩:=Ed (K:=K) (G:=fK H7 b c) (bk:=aE.zip cs1) (as:=as7) (by rw[al];unfold eI;rw[Jc]) (by omega) (fun qq hq=>⟨(Mp qq hq).1,(Mp qq hq).2.1⟩) (fun j a qq ha hq=>by
  obtain⟨u1,u2⟩:=hk j a (.inr qq.1) (.str qq.2) ha (by unfold eI;rw[Ji,hq];rfl)
  rw[bW (gb.bx.aO u1).1 (gb.bx.aO u1).2]
  exact u2)
 refine⟨b,c,p7,t6,fK H7 b c,zs,rfl,jf.bx,by omega,by omega,ao.refl _,.inl (bb.of (by rw[qL,ez2])),M,fun l1 zs1 H8 t8 pz1 hl10 hl11 eG =>?_⟩
 have YQ:=eG.ub
 have Xs:=eG.le
 obtain⟨l1b,l1c⟩:=jf.bx.aO hl10
 obtain⟨nE,pb1,D1⟩:=wQ ez1 M pz1 eG.sm (by rw[bW l1b l1c];exact hl11)
 have P5:=P5.step eG
 have P6:=P6.step eG
 obtain⟨zs,ez1,ez2,M⟩:=Ed (K:=K) (G:=fK H8 b c) P5.len (by omega) (fun qq hq=>⟨(Nv qq hq).1,(Nv qq hq).2.1⟩) P5.prs
 refine⟨_,rfl,_,rfl,b,c,p5,t8,fK H8 b c,zs,rfl,eG.bx,by omega,by omega,ao.refl _,.inl (bb.of (by rw[P5.at',ez2])),M,fun l2 zs2 H9 t9 pz2 hl20 hl21 kW =>?_⟩
 have Z5:=kW.ub
 have lo9:=kW.le
 obtain⟨l2b,l2c⟩:=eG.bx.aO hl20
 obtain⟨rS,pb2,D2⟩:=wQ ez1 M pz2 kW.sm (by rw[bW l2b l2c];exact hl21)
 have P6:=P6.step kW
 obtain⟨zs,ez1,ez2,M⟩:=Ed (K:=K) (G:=fK H9 b c) P6.len (by omega) (fun qq hq=>⟨(My qq hq).1,(My qq hq).2.1⟩) P6.prs
 refine⟨_,rfl,_,rfl,b,c,p6,t9,fK H9 b c,zs,rfl,kW.bx,by omega,by omega,ao.refl _,.inl (bb.of (by rw[P6.at',ez2])),M,fun l3 zs3 H10 t10 pz3 hl30 hl31 hU =>?_⟩
 obtain⟨l3b,l3c⟩:=kW.bx.aO hl30
 obtain⟨tG,pb3,D3⟩:=wQ ez1 M pz3 hU.sm (by rw[bW l3b l3c];exact hl31)
 refine⟨_,rfl,_,rfl,by show 5<=sizeLine;decide,fun l H11 n11 =>?_⟩
 have TV:=((((OL.trans jf).trans eG).trans kW).trans hU).dI n11
 have JE:=(Step.same hU.bx n11.same).sm
 refine q l _ _ _ nE rS tG near bB H11 t10 ⟨?_,?_,?_,?_,?_,?_,by omega⟩ (((((OL.trans jf).trans eG).trans kW).trans hU).fresh bx n11.nn) n11.at (bL (D1.same (kW.sm.trans (hU.sm.trans JE))) (bL (D2.same (hU.sm.trans JE)) (bL (D3.same JE) mr))) (TV.more (by omega))
 ·refine EU (sM O8 (by rw[Qx];rfl) (by omega) (fun x hx=>(Wb x hx).1) ZX pb1) (sM Kx (by rw[cl2];rfl) (by omega) (fun x hx=>(cb2 x hx).1) fr2 pb2) (sM LN (by rw[cl3];rfl) (by omega) (fun x hx=>(cb3 x hx).1) fr3 pb3) n2 n8 nf JT ?_
  rw[C4 pb1 (fc (by rw[Qx];rfl))]
  exact hF
 ·have:=pb1.map (·.1)
  rw[fc (by rw[Qx];rfl)] at this
  exact this
 ·rw[pb1.length_eq,XN]
 ·rw[pb2.length_eq,VC]
 ·rw[pb3.length_eq,Xu]
 ·rintro qq (hq|hq|hq)
  ·exact Mp qq (pb1.mem_iff.mp hq)
  ·exact Nv qq (pb2.mem_iff.mp hq)
  ·exact My qq (pb3.mem_iff.mp hq)
end
noncomputable def mD:Nat->Nat->List Nat
 | 0,_=>[]
 | k+1,n=>mD k (n / 2)++[48+n%2]
noncomputable def dw (n k:Nat):Str:=⟨(mD k n).toArray⟩
theorem gj:∀(k n:Nat),((Uy k).map fun j=>48+n / 2^j%2).reverse=mD k n
 | 0,_=>rfl
 | k+1,n=>by
  rw[List.range_succ_eq_map,J0,List.reverse_cons,U0]
  show _++[48+n / 2^0%2]=mD k (n / 2)++[48+n%2]
  rw[<-gj k (n / 2)]
  congr 2
  ·refine Yy fun j _ =>?_
   show 48+n / 2^(j+1)%2=48+n / 2 / 2^j%2
   rw[Nat.div_div_eq_div_mul,Nat.pow_succ,Nat.mul_comm]
  ·simp
theorem vH:∀(k n:Nat),(mD k n).length=k
 | 0,_=>rfl
 | k+1,n=>by unfold mD;rw[Jp,vH k];rfl
theorem zw (n:Nat):Builtin.bitAnd (n:Int) 1=((n%2:Nat):Int):=by
 rw[PyProof.Rows.bitAnd_pp (by omega) (by decide)]
 have:((n:Int).toNat &&& (1:Int).toNat)=n%2:=by
  show(n &&& 1)=n%2
  exact Nat.and_one_is_mod n
 rw[this]
theorem zh (n:Nat):(Str.ofString (toString ((n%2:Nat):Int)))=⟨#[48+n%2]⟩:=by
 rcases Nat.mod_two_eq_zero_or_one n with h|h<;>rw[h]<;>decide +kernel
theorem vA:∀k:Nat,(Ju k 1).sum=k
 | 0=>rfl
 | k+1=>by rw[Yk,Ye,vA k];omega
theorem vQ {α β:Type}(g: α -> β):∀l:List α,l.flatMap (fun j=>[g j])=l.map g
 | []=>rfl
 | a::l=>by rw[List.flatMap_cons,vQ g l];rfl
def oW:Sp:=fun vs H Q _=>dS fun(n k:Nat)=>vs=[.int n,.int k]/\k<=60/\∀H',ao H H'->Q (.str (dw n k)) H'
section
variable {P:Program}{w:World}{K:Ja}{mg:Str->Option Value}{base:Heap}{f:Addr}{fd:FuncData}
theorem eu:aA ["number", "many", "figures", "step"] ["number", "many"] (aj (top gO)):=⟨rfl,rfl,rfl,by decide +kernel,rfl,by decide +kernel,by decide +kernel⟩
theorem Ln (F:bO K "figures_of" "figures_of" (top gO) f fd)(T:Nm mg):bh P w K mg base eP 1 f fd ["number", "many"] oW:=by
 refine F.ok eu (fun vs H Q E h =>?_) (fun cG A outer s H vs Q E hr h =>?_)
 ·obtain⟨n,k,rfl,_⟩:=h
  rfl
 obtain⟨n,k,rfl,hk,q⟩:=h
 have eT:=hr.units
 refine⟨_,(af (aF (i:=2) eu.nd rfl (Or.inl rfl) (fE ae))
  (af (d7 PassesOwn.never rfl (dX rfl T.n_range (aa (pv 1) ae)) (aD (i:=3) eu.nd rfl (Or.inl rfl)) (af (fN (uy K PySem.F.plainAttrs_list PySem.F.slot_list_append PySem.F.type_list_append jd (pv 2) (aa (bf kO rfl T.n_str (by rfl) (aa (aH KU (pv 0) ah) ae)) ae)))
  (ag (xk (i:=0) eu.nd rfl (Or.inl rfl) ah E4))))
  (ag (av (uy K PySem.F.plainAttrs_str PySem.F.slot_str_join PySem.F.type_str_join (yP K) aq (aa (Kc K (pv 2)) ae)))))),?_⟩
 refine⟨by show 0<=sizeLine;decide,fun l H1 n1 =>?_⟩
 refine⟨_,rfl,k,rfl,by omega,by omega,?_⟩
 refine eZ (lo:=0) (n:=k) (fun i σ H'=>∃x3,σ=[some (.int ((n / 2^i:Nat):Int)),some (.int k),some (.ref l),x3]/\H' l=some (.lst (((Uy i).map fun j=>(⟨#[48+n / 2^j%2]⟩:Str)).map V.str))/\ao H H') ⟨_,by simp;rfl,n1.at,n1.same⟩ ?_ ?_
 ·intro i σ H2 hi
  refine ai.go ?_
  rintro x3 rfl u3 gB
  refine⟨_,rfl,.inl ⟨rfl,_,bb.of u3⟩,_,rfl,_,_,rfl,rfl,_,rfl,?_,l,_,_,rfl,rfl,u3,?_,fun H3 c3 =>?_⟩
  ·rw[zw]
   have:((n / 2^i%2:Nat):Int).natAbs<=1:=by omega
   have hb:((n / 2^i%2:Nat):Int).natAbs=0∨((n / 2^i%2:Nat):Int).natAbs=1:=by omega
   rcases hb with z|z<;>rw[z]<;>decide
  ·rw[Jc,Jc,List.length_range];exact Jq (show i<1000 by omega) (by decide)
  have ed:((n / 2^i:Nat):Int) / 2=((n / 2^(i+1):Nat):Int):=by rw[Nat.pow_succ,<-Nat.div_div_eq_div_mul];omega
  refine⟨_,rfl,_,_,rfl,rfl,⟨by decide,by decide⟩,some (.int (0+i)),?_,?_,?_⟩
  ·show[some (V.int (((n / 2^i:Nat):Int) / 2)),_,_,_]=_
   rw[ed]
  ·rw[c3.at,zw,zh,List.range_succ,Jy,Jy]
   rfl
  ·intro a o e
   rw[c3.ne (aw e n1.nn)]
   exact gB a o e
 ·intro σ H2
  refine ai.go ?_
  rintro x3 rfl u3 gB
  refine⟨rfl,_,rfl,l,_,rfl,bb.of u3,fun pr H3 n3 =>?_⟩
  refine⟨_,pr,((Uy k).map fun j=>(⟨#[48+n / 2^j%2]⟩:Str)).reverse,rfl,rfl,bb.of (by rw[n3.at,List.map_reverse]),?_,?_⟩
  ·rw[List.map_reverse,U0,List.sum_reverse]
   have:((Uy k).map ((fun x:Str=>x.length)∘fun j=>(⟨#[48+n / 2^j%2]⟩:Str)))=Ju k 1:=by
    rw[List.eq_replicate_iff]
    refine⟨by simp,fun b hb =>?_⟩
    refine ai.el (Uh.mp hb) _ ?_
    rintro j _ rfl
    rfl
   rw[this,vA]
   show k+_*0<=16777216
   omega
  ·have e:Txt.join "" ((Uy k).map fun j=>(⟨#[48+n / 2^j%2]⟩:Str)).reverse=dw n k:=by
    have h1:=dr ((Uy k).map fun j=>(⟨#[48+n / 2^j%2]⟩:Str)).reverse
    have h2:(((Uy k).map fun j=>(⟨#[48+n / 2^j%2]⟩:Str)).reverse.flatMap fun p=>p.cps.toList)=mD k n:=by
     rw[<-gj,<-List.map_reverse,<-List.map_reverse,List.flatMap_map]
     show(Uy k).reverse.flatMap (fun j=>[48+n / 2^j%2])=_
     exact vQ _ _
    rw[h2] at h1
    unfold dw
    rw[<-h1]
   exact e▸q H3 (gB.trans n3.same)
end
def oS:Sp:=fun vs H Q _=>∃n:Nat,vs=[.int n]/\n<=1000/\Q (.int (2^n)) H
section
variable {P:Program}{w:World}{K:Ja}{mg:Str->Option Value}{base:Heap}{f:Addr}{fd:FuncData}
theorem rD:aA ["power", "whole", "step"] ["power"] (aj (top nW)):=⟨rfl,rfl,rfl,by decide +kernel,rfl,by decide +kernel,by decide +kernel⟩
theorem KA (F:bO K "two_to" "two_to" (top nW) f fd)(T:Nm mg):bh P w K mg base eP 1 f fd ["power"] oS:=by
 refine F.ok rD (fun vs H Q E h =>?_) (fun cG A outer s H vs Q E hr h =>?_)
 ·obtain⟨n,rfl,_⟩:=h
  rfl
 obtain⟨n,rfl,hn,q⟩:=h
 refine⟨_,(af (aF (i:=1) rD.nd rfl (Or.inl rfl) ah)
  (af (d7 PassesOwn.never rfl (dX rfl T.n_range (aa (pv 0) ae)) (aD (i:=2) rD.nd rfl (Or.inl rfl)) (ag (xk (i:=1) rD.nd rfl (Or.inl rfl) (pv 1) DJ)))
  (ag (av (pv 1))))),?_⟩
 refine⟨_,rfl,_,rfl,by omega,by omega,?_⟩
 refine eZ (lo:=0) (n:=n) (fun i σ H'=>H'=H/\∃st,σ=[some (.int n),some (.int (2^i)),st]) ⟨rfl,_,rfl⟩ ?_ ?_
 ·rintro i σ H' hi ⟨rfl,st,rfl⟩
  refine⟨_,rfl,_,rfl,_,_,rfl,rfl,rfl,some (.int (0+i)),?_⟩
  rw[<-EK]
  rfl
 ·rintro σ H' ⟨rfl,st,rfl⟩
  exact⟨_,rfl,q⟩
end
inductive Arg where
 | sp (x:Str)|nu (n:Nat)|ma (n:Nat)|ne (d:Int)|fa (d:Int)
noncomputable def Arg.kind:Arg->Str
 | .sp _ => "spot" | .nu _ => "number" | .ma _ => "many" | .ne _ => "near" | .fa _ => "far"
noncomputable def Arg.v:Arg->V
 | .sp x =>.str x | .nu n =>.int (n:Nat) | .ma n =>.int (n:Nat) | .ne d =>.int d | .fa d =>.int d
def Arg.ok:Arg->Prop
 | .sp x=>x∈bP | .nu n=>n<=255 | .ma n=>n<=7 | .ne d=>d.natAbs<=1000000 | .fa d=>d.natAbs<=1000000
noncomputable def inD (d:Int)(k:Nat):Bool:=decide (-(2^(k-1))<=d)&&decide (d<2^(k-1))
noncomputable def kn (d:Int)(k:Nat):Option Str:=if inD d k=true then some (dw ((if d<0 then d+2^k else d).toNat) k) else none
noncomputable def cC (n:Nat):Nat:=PySem.Builtin.Int.intBits (n:Int)
structure Fb where
 b1:List (Str×Str)
 b2:List (Str×Str)
 b3:List (Str×Str)
 near:Nat
 bB:Nat
noncomputable def dQ (F:Fb):Arg->Option Str
 | .sp x=>some (aX F.b2 x)
 | .nu n=>some (aX F.b3 (bt.getD (cC n) Str.empty)++Txt.slice (dw n (cC n)) (some 1) none)
 | .ma n=>some (dw n 3++Txt.mul (Str.ofString "0") (n:Nat))
 | .ne d=>kn d F.near
 | .fa d=>kn d F.bB
noncomputable def cc (F:Fb):List Arg->Option (List Str)
 | []=>some []
 | a::r=>match dQ F a with
  | none=>none
  | some x=>(cc F r).map (x :: ·)
noncomputable def eM (F:Fb)(w:Str)(as:List Arg):Option Str:=(cc F as).map fun ts=>Txt.join "" (aX F.b1 w::ts)
structure lz (F:Fb):Prop where
 g:Good3 F.b1 F.b2 F.b3 F.near F.bB
 n2:(F.b2.map (·.1)).Perm bP
 n3:(F.b3.map (·.1)).Perm bt
 nr:2<=F.near/\F.near<=8
 fr:F.near<F.bB/\F.bB<=16
theorem u6 {ns:List Str}{bk:List (Str×Str)}(h:cZ ns (aI bk)=true):(bk.map (·.1)).Perm ns:=by
 unfold cZ at h
 rw[Jx,Jx] at h
 have:=of_decide_eq_true h.2.1
 rw[show cy (fH (aI bk))=bk from iO bk] at this
 exact this
theorem Good3.ZR {b1 b2 b3:List (Str×Str)}{near bB:Int}(g:Good3 b1 b2 b3 near bB):lz ⟨b1,b2,b3,near.toNat,bB.toNat⟩/\near=(near.toNat:Nat)/\bB=(bB.toNat:Nat):=by
 obtain⟨h1,h2,h3⟩:=xU g.why
 have w:=g.why
 unfold jW at w
 rw[if_neg (by rw[h1];decide),if_neg (by rw[h2];decide),if_neg (by rw[h3];decide)] at w
 unfold AD at w
 have hn:pq (.int near)=true:=by
  cases e:pq (.int near) with
  | true=>rfl
  | false=>rw[if_pos e] at w;cases w
 rw[if_neg (by rw[hn];decide)] at w
 have hf:uT (aI b1) (.int near) (.int bB)=true:=by
  cases e:uT (aI b1) (.int near) (.int bB) with
  | true=>rfl
  | false=>rw[if_pos e] at w;cases w
 have hn:(decide (2<=near)&&decide (near<=8))=true:=hn
 have hf:(decide (near<bB)&&(decide (bB<=16) && !gh (cy (fH (aI b1))) near bB))=true:=hf
 rw[Jx,decide_eq_true_eq,decide_eq_true_eq] at hn
 rw[Jx,Jx,decide_eq_true_eq,decide_eq_true_eq] at hf
 have en:near=(near.toNat:Nat):=by omega
 have ef:bB=(bB.toNat:Nat):=by omega
 exact⟨⟨by show Good3 b1 b2 b3 (near.toNat:Nat) (bB.toNat:Nat);rw[<-en,<-ef];exact g,u6 h2,u6 h3,by show 2<=near.toNat/\near.toNat<=8;omega,by show near.toNat<bB.toNat/\bB.toNat<=16;omega⟩,en,ef⟩
theorem xD {n:Nat}(h:n<=255):cC n<=8:=by
 unfold cC PySem.Builtin.Int.intBits
 split
 ·decide
 ·rename_i hz
  have E8:((n:Nat):Int).natAbs≠0:=fun z=>hz (by simp;omega)
  have:=(Nat.log2_lt E8).mpr (show((n:Nat):Int).natAbs<2^8 by omega)
  omega
theorem cL (n k:Nat):(dw n k).length=k:=by
 show(mD k n).toArray.size=k
 rw[Js,vH]
theorem C1 {bk:List (Str×Str)}{x:Str}(h:∀q∈bk,q.2.length<=11):(aX bk x).length<=11:=by
 induction bk with
 | nil=>exact Um _
 | cons q r ih=>
  unfold aX
  split
  ·exact h q Jr
  ·exact ih fun z hz=>h z (Jo _ hz)
theorem lz.c1 {F:Fb}(h:lz F)(x:Str):(aX F.b1 x).length<=11:=C1 fun q hq=>(h.g.sz q (.inl hq)).2.2.2
theorem lz.c2 {F:Fb}(h:lz F)(x:Str):(aX F.b2 x).length<=11:=C1 fun q hq=>(h.g.sz q (.inr (.inl hq))).2.2.2
theorem lz.c3 {F:Fb}(h:lz F)(x:Str):(aX F.b3 x).length<=11:=C1 fun q hq=>(h.g.sz q (.inr (.inr hq))).2.2.2
theorem GU {F:Fb}(h:lz F){a:Arg}(ha:a.ok){x:Str}(e:dQ F a=some x):x.length<=40:=by
 have nr:=h.nr
 have fr:=h.fr
 have dl:∀{d:Int} {k:Nat} {x:Str},kn d k=some x->x.length=k:=fun e=>by
  unfold kn at e
  split at e
  ·cases e;exact cL _ _
  ·cases e
 cases a with
 | sp y=>cases e;have:=h.c2 y;omega
 | nu n=>
  cases e
  have h1:=h.c3 (bt.getD (cC n) Str.empty)
  have h2:=Txt.slice_le (dw n (cC n)) (some 1) none
  have h3:=xD ha
  rw[PySem.strLen_append]
  rw[cL] at h2
  omega
 | ma n=>
  cases e
  have hn:n<=7:=ha
  rw[PySem.strLen_append,cL]
  have:∀n,n<=7->(Txt.mul (Str.ofString "0") ((n:Nat):Int)).length<=10:=by decide +kernel
  have:=this n hn
  omega
 | ne d=>have:=dl e;omega
 | fa d=>have:=dl e;omega
def Ej (H:Hp)(E:XK)(C:Addr):Prop:=∀ex H',ao H H'->H' ex=some (.xd [("row",.int 0)])->E (.ref C) (some ex) H'
theorem Ej.same {H H':Hp}{E:XK}{C:Addr}(h:Ej H E C)(s:ao H H'):Ej H' E C:=fun ex H2 s2 e=>h ex H2 (s.trans s2) e
def Rp (H:Hp)(Q:VK)(E:XK)(C:Addr):Option Str->Prop
 | some x=>∀H',ao H H'->Q (.str x) H'
 | none=>Ej H E C
def Kl:Sp:=fun vs H Q _=>dS fun(d:Int) (k:Nat)=>vs=[.int d,.int (k:Nat)]/\1<=k/\k<=60/\∀H',ao H H'->Q (.bl (inD d k)) H'
def L4 (C:Addr):Sp:=fun vs H Q E=>dS fun(d:Int) (k:Nat)=>vs=[.int d,.int (k:Nat)]/\1<=k/\k<=60/\Rp H Q E C (kn d k)
def kG (K:Ja)(CF:Addr)(H:Hp)(m:Addr)(F:Fb):Prop:=ik K CF H m (aI F.b1) (aI F.b2) (aI F.b3) (.int (F.near:Nat)) (.int (F.bB:Nat))
def Lh (K:Ja)(CF C:Addr):Sp:=fun vs H Q E=>m7 fun(m:Addr) (F:Fb) (a:Arg)=>vs=[.ref m,.str a.kind,a.v]/\kG K CF H m F/\lz F/\a.ok/\Rp H Q E C (dQ F a)
section
variable {P:Program}{w:World}{K:Ja}{mg:Str->Option Value}{base:Heap}{f fi:Addr}{fd Ml:FuncData}{C CF aZ:Addr}{t6:Tok}
theorem pX:aA ["self", "row"] ["self", "row"] (aj (inClass (top gp) 0)):=⟨rfl,rfl,rfl,by decide +kernel,rfl,by decide +kernel,by decide +kernel⟩
theorem pT (F:bO K "__init__" "TooFar.__init__" (inClass (top gp) 0) f fd)(S:nz K C "row"):bh P w K mg base eP 1 f fd ["self", "row"] (zQ C "row"):=by
 refine F.ok pX (fun vs H Q E h =>?_) (fun cG A outer s H vs Q E hr h =>?_)
 ·obtain⟨e,v,rfl,_⟩:=h
  rfl
 obtain⟨e,v,rfl,he,q⟩:=h
 refine⟨_,(ag (zI (pv 0) (pv 1) rfl)),?_⟩
 exact⟨_,rfl,_,rfl,e,C,rfl,he,S,fun dx h1 h2=>q dx h1 h2⟩
theorem jj:aA ["distance", "figures", "half"] ["distance", "figures"] (aj (top gM)):=⟨rfl,rfl,rfl,by decide +kernel,rfl,by decide +kernel,by decide +kernel⟩
theorem O5 (F:bO K "is_reached" "is_reached" (top gM) f fd)(T:Nm mg)(oq:Fn P w K mg base 1 "two_to" ["power"] oS):bh P w K mg base eP 2 f fd ["distance", "figures"] Kl:=by
 refine F.ok jj (fun vs H Q E h =>?_) (fun cG A outer s H vs Q E hr h =>?_)
 ·obtain⟨d,k,rfl,_⟩:=h
  rfl
 obtain⟨d,k,rfl,k1,k6,q⟩:=h
 refine⟨_,(af (aF (i:=2) jj.nd rfl (Or.inl rfl) (aB (oq.mono (by decide)) hr rfl (aa (aH jz (pv 1) ah) ae)))
  (ag (av (uP my l6 (jt fX (pv 2)) (pv 0) (pv 2))))),?_⟩
 refine⟨_,rfl,_,_,rfl,rfl,k-1,?_,by omega,gn ?_⟩
 ·show[V.int ((k:Int)-1)]=[V.int ((k-1:Nat):Int)]
  rw[show(k:Int)-1=((k-1:Nat):Int) by omega]
 have q:=q H (ao.refl _)
 unfold inD at q
 refine⟨_,rfl,_,rfl,_,rfl,_,_,rfl,rfl,?_⟩
 refine⟨_,rfl,?_⟩
 by_cases c: -(2^(k-1))<=d
 ·rw[decide_eq_true c,U2] at q
  rw[decide_eq_true c]
  exact bK ⟨_,rfl,_,_,rfl,rfl,q⟩
 ·rw[decide_eq_false c,Yh] at q
  rw[decide_eq_false c]
  exact bF q
theorem gY:aA ["distance", "figures"] ["distance", "figures"] (aj (top fF)):=⟨rfl,rfl,rfl,by decide +kernel,rfl,by decide +kernel,by decide +kernel⟩
theorem OX (F:bO K "put_distance" "put_distance" (top fF) f fd)(T:Nm mg)(nB:mg "TooFar" = some (.ref C))(nq:Lq K C fi)(oC:bh P w K mg base eP 1 fi Ml ["self", "row"] (zQ C "row"))(oE:Binds K Ml ["self", "row"] [])(sF:Fn P w K mg base 2 "is_reached" ["distance", "figures"] Kl)(oq:Fn P w K mg base 1 "two_to" ["power"] oS)(eW:Fn P w K mg base 1 "figures_of" ["number", "many"] oW):
  bh P w K mg base (pO P w base) 3 f fd ["distance", "figures"] (L4 C):=by
 refine F.Pc gY (fun vs H Q E h =>?_) (fun cG A outer s H vs Q E hr h =>?_)
 ·obtain⟨d,k,rfl,_⟩:=h
  rfl
 obtain⟨d,k,rfl,k1,k6,q⟩:=h
 refine⟨_,(af (bA (dN (cf (aB (sF.mono (by decide)) hr rfl (aa (pv 0) (aa (pv 1) ae))))) (ag (qB (k:=1) nq oC (hr.mono (by decide)) rfl nB oE (aa ah ae))) aM)
  (af (bA (aQ l6 (pv 0) ah (aV _)) (ag (xk (i:=0) gY.nd rfl (Or.inl rfl) (aB (oq.mono (by decide)) hr rfl (aa (pv 1) ae)) DJ)) aM)
  (ag (av (aB (eW.mono (by decide)) hr rfl (aa (pv 0) (aa (pv 1) ae))))))),?_⟩
 refine⟨_,rfl,_,rfl,d,k,rfl,k1,k6,fun H1 s1=>⟨_,rfl,?_⟩⟩
 unfold kn at q
 cases c:inD d k with
 | false=>
  rw[c,if_neg (by decide)] at q
  refine bK ⟨by show 1<=1000;decide,fun e he=>⟨e,.int 0,rfl,ay,fun dx c1 c2=>⟨rfl,e,dx,rfl,?_,?_,?_⟩⟩⟩
  ·rw[ak (Ne.symm c2),ay]
  ·cases z:H e with
   | none=>rfl
   | some o=>rw[s1 _ _ z] at he;cases he
  ·refine q dx _ (fun a o z =>?_) ?_
   ·have z1:=s1 _ _ z
    have na:a≠e:=aw z1 he
    have nd:a≠dx:=fun y=>by
     rw[ak c2,<-y,z1] at c1
     cases c1
    rw[cJ na,ak nd,ak na,ak na]
    exact z1
   ·rw[cJ c2,ay]
 | true=>
  rw[c,if_pos rfl] at q
  refine bF ?_
  have c:(decide (-(2^(k-1))<=d)&&decide (d<2^(k-1)))=true:=c
  rw[Jx,decide_eq_true_eq,decide_eq_true_eq] at c
  dsimp only[bZ]
  have p2:(2:Int)^k=2*2^(k-1):=by
   rw[show k=(k-1)+1 by omega,Int.pow_succ,Int.mul_comm];rfl
  have pp:(0:Int)<2^(k-1):=Int.pow_pos (by decide)
  refine iq (t:=Fv _ _ _) (fun σ H' =>σ=[some (.int (((if d<0 then d+2^k else d).toNat:Nat):Int)),some (.int (k:Nat))]/\H'=H1) (fun Nx nx =>?_) ?_
  ·refine⟨_,rfl,_,_,rfl,rfl,_,rfl,eU (fun c2 =>?_) (fun c2 =>?_)⟩
   ·have c2:d<0:=of_decide_eq_true c2
    refine⟨_,rfl,_,rfl,k,rfl,by omega,?_⟩
    refine⟨_,_,rfl,rfl,nx _ _ ⟨?_,rfl⟩⟩
    rw[if_pos c2,Yl (by omega)]
    rfl
   ·have c2:¬d<0:=fun z=>c2 (decide_eq_true z)
    refine nx _ _ ⟨?_,rfl⟩
    rw[if_neg c2,Yl (by omega)]
    rfl
  ·rintro σ H2 ⟨rfl,rfl⟩
   exact⟨_,rfl,_,rfl,_,k,rfl,k6,fun H3 s3=>q H3 (s1.trans s3)⟩
theorem lY:aA ["form", "part", "value", "size"] ["form", "part", "value"] (aj (top jS)):=⟨rfl,rfl,rfl,by decide +kernel,rfl,by decide +kernel,by decide +kernel⟩
theorem Pu (F:bO K "put_part" "put_part" (top jS) f fd)(T:Nm mg)(MF:Hj K CF)(cA:mg "dict" = none)(dA:mg "SIZE_NAMES" = some (.ref aZ))(hZ:∀H,br K H aZ (bt.map V.str))(fq:mg "SKIP_FIGURES" = some (.int 3 t6))(eW:Fn P w K mg base 1 "figures_of" ["number", "many"] oW)(nM:zM P w K mg base 3 "put_distance" ["distance", "figures"] (L4 C)):
  bh P w K mg base (pO P w base) 4 f fd ["form", "part", "value"] (Lh K CF C):=by
 refine F.Pc lY (fun vs H Q E h =>?_) (fun cG A outer s H vs Q E hr h =>?_)
 ·obtain⟨m,Fb,a,rfl,_⟩:=h
  rfl
 obtain⟨m,Fo,a,rfl,fo,fr,ha,q⟩:=h
 have hu:=nP hr
 have eT:=hr.units
 have small:∀{n:Nat},n<=10000->n<=sizeLine:=fun h=>Jh h (by decide)
 obtain⟨dx,w1,w2,w3,w4,w5,ho,g1,g2,g3,g4,g5⟩:=fo
 have e4:w4 = .int (Fo.near:Nat):=by unfold Den at g4;exact g4
 have e5:w5 = .int (Fo.bB:Nat):=by unfold Den at g5;exact g5
 subst e4 e5
 have nr:=fr.nr
 have bB:=fr.fr
 refine⟨_,(af (bA (aQ (qj K eT) (pv 1) aq (aV _)) (ag (av (bM hu (bf (tH K rfl) rfl cA (by rfl) (aa (kD K (pv 0) rfl) ae)) (pv 2) (fun _ _=>rfl)))) aM)
  (af (bA (aQ (qj K eT) (pv 1) aq (aV _)) (af (aF (i:=3) lY.nd rfl (Or.inl rfl) (OV K PySem.F.plainAttrs_int PySem.F.slot_int_bit_length PySem.F.type_int_bit_length Nj (pv 2)))
  (ag (av (aH cE (bM hu (bf (tH K rfl) rfl cA (by rfl) (aa (kD K (pv 0) rfl) ae)) (bp (fI K) (gR rfl dA) (pv 3) (fun _ _=>rfl)) (fun _ _=>rfl)) (da (VM K) (aB (eW.mono (by decide)) hr rfl (aa (pv 2) (aa (pv 3) ae))) (cF ah) gI))))) aM)
  (af (bA (aQ (qj K eT) (pv 1) aq (aV _)) (ag (av (aH cE (aB (eW.mono (by decide)) hr rfl (aa (pv 2) (aa (kB rfl fq) ae))) (aH MN aq (pv 2))))) aM)
  (ag (av (Ey (E':=E) (nM.mono (by first|decide|exact Je _|omega)) hr rfl (fun _ _ _ z=>z) (aa (pv 2) (aa (gA (aQ (qj K eT) (pv 1) aq (aV _)) (kD K (pv 0) rfl) (kD K (pv 0) rfl)) ae)))))))),?_⟩
 cases a with
 | sp x=>
  dsimp only[Arg.kind,Arg.v]
  obtain⟨p,as,rfl,sq,al,hT⟩:=mO g2 (show fH (Ic (aI Fo.b2))=aI Fo.b2 from rfl)
  have bn:(eI Fo.b2).length=Fo.b2.length:=by unfold eI;rw[Jc]
  have l2:Fo.b2.length=4:=fr.g.l2
  have nd:(Fo.b2.map (·.1)).Nodup:=fr.n2.nodup_iff.mpr Kx.nd
  have hx:x∈Fo.b2.map (·.1):=fr.n2.mem_iff.mpr ha
  refine⟨_,rfl,.inl ⟨rfl,_,rfl,tm ?_⟩⟩
  refine⟨_,rfl,m,CF,dx,_,_,rfl,ho,MF.c,MF.n2,rfl,p,as,eI Fo.b2,rfl,sq,by rw[bn];exact al,by rw[bn,l2];decide,hT,fun dd H1 n1 =>?_⟩
  rw[eJ nd] at n1
  have gd:dz H1 dd (.str x) (some (.str (aX Fo.b2 x))):=by
   rw[<-fB hx]
   exact dz.k (k := .inr x) n1.at
  exact⟨_,rfl,dd,_,rfl,gd,q H1 n1.same⟩
 | nu n=>
  dsimp only[Arg.kind,Arg.v]
  have hn:n<=255:=ha
  have hb:=xD hn
  obtain⟨p,as,rfl,sq,al,hT⟩:=mO g3 (show fH (Ic (aI Fo.b3))=aI Fo.b3 from rfl)
  have bn:(eI Fo.b3).length=Fo.b3.length:=by unfold eI;rw[Jc]
  have l3:Fo.b3.length=9:=fr.g.l3
  have nd:(Fo.b3.map (·.1)).Nodup:=fr.n3.nodup_iff.mpr LN.nd
  obtain⟨x,hx⟩:∃x,bt[cC n]? = some x:=⟨_,Jd (show cC n<9 by omega)⟩
  have ex:bt.getD (cC n) Str.empty=x:=by rw[Uk,hx];rfl
  have ZV:x∈Fo.b3.map (·.1):=fr.n3.mem_iff.mpr (J2 hx)
  refine⟨_,rfl,.inl ⟨rfl,_,rfl,gu ?_⟩⟩
  dsimp only[bZ]
  refine⟨_,rfl,.inl ⟨rfl,_,rfl,tm ?_⟩⟩
  refine⟨_,rfl,rfl,_,rfl,rfl,gn ?_⟩
  refine⟨_,rfl,m,CF,dx,_,_,rfl,ho,MF.c,MF.n3,rfl,p,as,eI Fo.b3,rfl,sq,by rw[bn];exact al,by rw[bn,l3];decide,hT,fun dd H1 n1 =>?_⟩
  rw[eJ nd] at n1
  have gd:dz H1 dd (.str x) (some (.str (aX Fo.b3 x))):=by
   rw[<-fB ZV]
   exact dz.k (k := .inr x) n1.at
  refine⟨_,rfl,.inr (.inl ⟨aZ,_,_,.str x,rfl,rfl,hZ _,j9 (by rw[Ji];show(bt[cC n]?).map V.str=_;rw[hx];rfl),dd,_,rfl,gd,?_⟩)⟩
  have cl:=fr.c3 x
  have fl:(dw n (cC n)).length<=8:=by rw[cL];exact hb
  have sl:=Txt.slice_le (dw n (cC n)) (some 1) none
  refine⟨_,rfl,_,rfl,n,cC n,rfl,by omega,fun H2 s2 =>?_⟩
  refine⟨1,rfl,.inr ⟨_,rfl,small (by omega),.inr (.inl ⟨_,_,rfl,rfl,small (by omega),?_⟩)⟩⟩
  have q:=q H2 (n1.same.trans s2)
  rw[ex] at q
  exact q
 | ma n=>
  dsimp only[Arg.kind,Arg.v]
  have hn:n<=7:=ha
  refine⟨_,rfl,.inl ⟨rfl,_,rfl,gu ?_⟩⟩
  dsimp only[bZ]
  refine⟨_,rfl,.inl ⟨rfl,_,rfl,gu ?_⟩⟩
  dsimp only[bZ]
  refine⟨_,rfl,.inl ⟨rfl,_,rfl,tm ?_⟩⟩
  have ml:∀n,n<=7->(Txt.mul (Str.ofString "0") ((n:Nat):Int)).length<=10:=by decide +kernel
  have ml:=ml n hn
  refine⟨_,rfl,n,3,rfl,by decide,fun H1 s1 =>?_⟩
  refine⟨_,rfl,.inr ⟨_,_,rfl,rfl,l7 (by decide) (by omega) (by omega),.inr (.inl ⟨_,_,rfl,rfl,small (by rw[cL];omega),q H1 s1⟩)⟩⟩
 | ne d=>
  dsimp only[Arg.kind,Arg.v]
  refine⟨_,rfl,.inl ⟨rfl,_,rfl,gu ?_⟩⟩
  dsimp only[bZ]
  refine⟨_,rfl,.inl ⟨rfl,_,rfl,gu ?_⟩⟩
  dsimp only[bZ]
  refine⟨_,rfl,.inl ⟨rfl,_,rfl,gu ?_⟩⟩
  dsimp only[bZ]
  refine⟨_,rfl,_,rfl,.inl ⟨rfl,_,rfl,tm ?_⟩⟩
  exact⟨_,rfl,m,CF,dx,_,_,rfl,ho,MF.c,MF.n4,rfl,d,Fo.near,rfl,by omega,by omega,q⟩
 | fa d=>
  dsimp only[Arg.kind,Arg.v]
  refine⟨_,rfl,.inl ⟨rfl,_,rfl,gu ?_⟩⟩
  dsimp only[bZ]
  refine⟨_,rfl,.inl ⟨rfl,_,rfl,gu ?_⟩⟩
  dsimp only[bZ]
  refine⟨_,rfl,.inl ⟨rfl,_,rfl,gu ?_⟩⟩
  dsimp only[bZ]
  refine⟨_,rfl,_,rfl,.inl ⟨rfl,_,rfl,gu ?_⟩⟩
  exact⟨_,rfl,m,CF,dx,_,_,rfl,ho,MF.c,MF.n5,rfl,d,Fo.bB,rfl,by omega,by omega,q⟩
end
noncomputable abbrev gN:List (Str×List Str):=[("set",["spot", "number"]),("add",["spot", "spot"]),("take",["spot", "spot"]),("tell",["spot"]),("ask",["spot"]),("jump",["near"]),("zero",["spot", "near"]),("stop",[]),("farjump",["far"]),("farzero",["spot", "far"]),("skip",["many"])]
theorem gG:∀q∈gN,q.1∈aE/\q.2.length<=2:=by decide +kernel
structure hX (w:Str)(as:List Arg):Prop where
 pt:∃q∈gN,w=q.1/\as.map Arg.kind=q.2
 ok:∀a∈as,a.ok
structure N8 (K:Ja)(w:World)(mg:Str->Option Value)(aP:Addr):Prop where
 g:mg "PARTS" = some (.ref aP)
 cd:IE K w aP
 pt:∀q∈gN,∃p,Jg K aP q.1=some (some (.ref p))/\∀H,br K H p (q.2.map V.str)
theorem qt {F:Fb}{a:Arg}:∀{as:List Arg},cc F (as++[a])=match cc F as with
  | none=>none
  | some ts=>(dQ F a).map fun x=>ts++[x]
 | []=>by
  show(match dQ F a with|none=>none|some x=>(some []).map (x :: ·))=_
  unfold cc
  cases dQ F a<;>rfl
 | b::as=>by
  have ih:=qt (F:=F) (a:=a) (as:=as)
  show(match dQ F b with|none=>none|some x=>(cc F (as++[a])).map (x :: ·))=(match (match dQ F b with|none=>none|some x=>(cc F as).map (x :: ·)) with|none=>none|some ts=>(dQ F a).map fun x=>ts++[x])
  cases dQ F b with
  | none=>rfl
  | some x=>
   rw[ih]
   cases cc F as with
   | none=>rfl
   | some ts=>cases dQ F a<;>rfl
theorem lP {F:Fb}{a:Arg}(e:dQ F a=none):∀{as:List Arg},a∈as->cc F as=none
 | b::as,h=>by
  show(match dQ F b with|none=>none|some x=>(cc F as).map (x :: ·))=none
  rcases Jv.mp h with rfl|h
  ·rw[e]
  ·rw[lP e h]
   cases dQ F b<;>rfl
theorem kN {F:Fb}(fr:lz F):∀{as:List Arg} {ts:List Str},(∀a∈as,a.ok)->cc F as=some ts->ts.length=as.length/\((ts.map fun x=>x.length).sum<=40*as.length)
 | [],ts,_,e=>by cases e;exact⟨rfl,Je _⟩
 | a::as,ts,ok,e=>by
  have e:(match dQ F a with|none=>none|some x=>(cc F as).map (x :: ·))=some ts:=e
  cases ea:dQ F a with
  | none=>rw[ea] at e;cases e
  | some x=>
   rw[ea] at e
   cases er:cc F as with
   | none=>rw[er] at e;cases e
   | some us=>
    rw[er] at e
    cases e
    obtain⟨h1,h2⟩:=kN fr (fun b hb=>ok b (Jo _ hb)) er
    have:=GU fr (ok a Jr) ea
    refine⟨by rw[Jn,Jn,h1],?_⟩
    rw[J0,Ye,Jn]
    omega
def Ll (K:Ja)(CF C:Addr):Sp:=fun vs H Q E=>wb fun(m p:Addr) (F:Fb) (w:Str) (as:List Arg)=>vs=[.ref m,.ref p]/\kG K CF H m F/\lz F/\hX w as/\br K H p (.str w::as.map Arg.v)/\Rp H Q E C (eM F w as)
section
variable {P:Program}{w:World}{K:Ja}{mg:Str->Option Value}{base:Heap}{f fi:Addr}{fd Ml:FuncData}{C CF aP:Addr}
theorem fP:aA ["form", "bare", "texts", "part", "value"] ["form", "bare"] (aj (top jJ)):=⟨rfl,rfl,rfl,by decide +kernel,rfl,by decide +kernel,by decide +kernel⟩
theorem ON (F:bO K "put_bare" "put_bare" (top jJ) f fd)(T:Nm mg)(MF:Hj K CF)(cA:mg "dict" = none)(NS:N8 K w mg aP)(wW:zM P w K mg base 4 "put_part" ["form", "part", "value"] (Lh K CF C)):
  bh P w K mg base (pO P w base) 5 f fd ["form", "bare"] (Ll K CF C):=by
 refine F.Pc fP (fun vs H Q E h =>?_) (fun cG A outer s H vs Q E hr h =>?_)
 ·obtain⟨m,p,Fo,w,as,rfl,_⟩:=h
  rfl
 obtain⟨m,p,Fo,wd,args,rfl,fo,fr,ba,hp,q⟩:=h
 have hu:=nP hr
 have eT:=hr.units
 have sD:=NS.g
 have small:∀{n:Nat},n<=10000->n<sizeLine:=fun h=>J1 h (by decide)
 obtain⟨qq,hqq,ew,ek⟩:=ba.pt
 obtain⟨pk,pl⟩:=gG qq hqq
 obtain⟨qp,hq1,Mm⟩:=NS.pt qq hqq
 have VX:args.length=qq.2.length:=by rw[<-ek,Jc]
 have Xg:=fo
 obtain⟨dx,w1,w2,w3,w4,w5,ho,g1,g2,g3,g4,g5⟩:=Xg
 obtain⟨pd,ad,rfl,sq,al,hT⟩:=mO g1 (show fH (Ic (aI Fo.b1))=aI Fo.b1 from rfl)
 have bn:(eI Fo.b1).length=Fo.b1.length:=by unfold eI;rw[Jc]
 have l1:Fo.b1.length=11:=fr.g.l1
 have nd:(Fo.b1.map (·.1)).Nodup:=fr.g.n1.nodup_iff.mpr cv
 have hx:wd∈Fo.b1.map (·.1):=fr.g.n1.mem_iff.mpr (by rw[ew];exact pk)
 refine⟨_,(af (aF (i:=2) fP.nd rfl (Or.inl rfl) (fE (aa (bM hu (bf (tH K rfl) rfl cA (by rfl) (aa (kD K (pv 0) rfl) ae)) (bp (fI K) (pv 1) ah (fun _ _=>rfl)) (fun _ _=>rfl)) ae)))
  (af (d7 PassesOwn.leaving rfl (rN K rfl T.n_zip (aa (FC K w (gR rfl sD) (bp (fI K) (pv 1) ah (fun _ _=>rfl)) (fun _ _=>rfl)) (aa (da (DP K) (pv 1) (cF ah) gI) ae))) (tupK K 2 rfl (aR (aD (i:=3) fP.nd rfl (Or.inl rfl)) (aR (aD (i:=4) fP.nd rfl (Or.inl rfl)) cu))) (ag (fN (uy K PySem.F.plainAttrs_list PySem.F.slot_list_append PySem.F.type_list_append jd (pv 2) (aa (Ey (E':=E) (wW.mono (by first|decide|exact Je _|omega)) hr rfl (fun _ _ _ z=>z) (aa (pv 0) (aa (pv 3) (aa (pv 4) ae)))) ae)))))
  (ag (av (uy K PySem.F.plainAttrs_str PySem.F.slot_str_join PySem.F.type_str_join (yP K) aq (aa (pv 2) ae)))))),?_⟩
 refine⟨_,rfl,m,CF,dx,_,_,rfl,ho,MF.c,MF.n1,rfl,pd,ad,eI Fo.b1,rfl,sq,by rw[bn];exact al,by rw[bn,l1];decide,hT,fun dd H1 n1 =>?_⟩
 rw[eJ nd] at n1
 have gd:dz H1 dd (.str wd) (some (.str (aX Fo.b1 wd))):=by
  rw[<-fB hx]
  exact dz.k (k := .inr wd) n1.at
 refine⟨_,rfl,.inr (.inl ⟨p,_,0,.str wd,rfl,rfl,n1.same.bU hp,cX (Y1 0) rfl,dd,_,rfl,gd,by show 1<=sizeLine;decide,fun l H2 n2=>gn ?_⟩)⟩
 have s2:=n1.same.trans n2.same
 have XX:∀{a:Addr} {o:HO},H a=some o->a≠l:=fun h z=>by rw[z] at h;have:=s2 _ _ h;have:=n2.nn;rw[n1.same _ _ h] at this;cases this
 dsimp only
 refine iq (t:=JY _ _ _) (fun σ H'=>∃(x3 x4:Option V) (ts:List Str),σ=[some (.ref m),some (.ref p),some (.ref l),x3,x4]/\ao H H'/\cc Fo args=some ts/\H' l=some (.lst ((aX Fo.b1 wd::ts).map V.str))) (fun Nx nx =>?_) ?_
 ·refine⟨_,rfl,.inr (.inl ⟨p,_,0,.str wd,rfl,rfl,s2.bU hp,cX (Y1 0) rfl,aP,qq.1,.ref qp,.ref qp,rfl,by rw[ew],NS.cd,hq1,rfl,?_⟩)⟩
  refine⟨_,rfl,1,rfl,p,_,rfl,s2.bU hp,?_,fun p5 H5 n5 =>?_⟩
  ·rintro⟨z,_⟩
   have:HT.cP (V.str wd::args.map Arg.v).length 0 (some 1)=1:=by
    show HT.cP _ 0 (some ((1:Nat):Int))=1
    rw[HT.fM,Jn]
    omega
   rw[this] at z
   exact absurd z (by decide)
  rw[show(1:Int)=((1:Nat):Int) from rfl,vI] at n5
  have n5:gX H2 p5 (.tup (args.map Arg.v)) H5:=n5
  have q5:ka true K H5 qp (qq.2.map V.str):=Mm H5
  have q6:ka true K H5 p5 (args.map Arg.v):=br.of n5.at
  refine⟨true,true,qp,p5,rfl,⟨_,q5⟩,⟨_,q6⟩,?_⟩
  have Hi:=n5.same _ _ n2.at
  have l5:l≠p5:=fun z=>by have:=n5.nn;rw[<-z,n2.at] at this;cases this
  refine lL (N:=args.length) (fun i σ H'=>∃(x3 x4:Option V) (ts:List Str),σ=[some (.ref m),some (.ref p),some (.ref l),x3,x4]/\ao H H'/\(H' p5=some (.tup (args.map Arg.v)))/\cc Fo (args.take i)=some ts/\H' l=some (.lst ((aX Fo.b1 wd::ts).map V.str))) ⟨_,_,[],rfl,s2.trans n5.same,n5.at,rfl,Hi⟩ ?_ ?_
  ·rintro i σ H6 hi ⟨x3,x4,ts,rfl,s6,h56,e6,Mo⟩
   have gk:(qq.2.map V.str)[i]? = some (.str args[i].kind):=by
    rw[<-ek,Ji,Ji,Jd hi];rfl
   have gv:(args.map Arg.v)[i]? = some args[i].v:=by rw[Ji,Jd hi];rfl
   have r5:ka true K H6 qp (qq.2.map V.str):=Mm H6
   have r6:ka true K H6 p5 (args.map Arg.v):=br.of h56
   refine⟨⟨_,_,_,_,r5,r6,gk,gv⟩,?_⟩
   rintro x' H7 ⟨T',rfl,hN⟩
   have n7:=hN _ _ _ _ r5 r6 gk gv
   refine⟨T',_,rfl,br.of n7.at,rfl,_,_,rfl,_,_,rfl,rfl,?_⟩
   have s7:=s6.trans n7.same
   have P0:=n7.same _ _ Mo
   have mem:=Ub hi
   have tl:ts.length<=100:=by
    have:=(kN fr (fun a ha=>ba.ok a (List.mem_of_mem_take ha)) e6).1
    rw[Uq] at this
    omega
   refine⟨_,rfl,.inl ⟨rfl,_,bb.of P0⟩,_,rfl,_,rfl,_,rfl,m,Fo,args[i],rfl,ik.same fo s7,fr,ba.ok _ mem,?_⟩
   cases ea:dQ Fo args[i] with
   | none=>
    have:eM Fo wd args=none:=by unfold eM;rw[lP ea mem];rfl
    rw[this] at q
    exact Ej.same q s7
   | some x=>
    refine fun H8 s8=>⟨l,_,_,rfl,rfl,s8 _ _ P0,small (by simp only[Jc,Jn];omega),fun H9 c9 =>?_⟩
    have e9:cc Fo (args.take (i+1))=some (ts++[x]):=by
     rw[U3 hi,qt,e6,ea];rfl
    refine⟨_,_,ts++[x],rfl,fun a o e =>?_,?_,e9,?_⟩
    ·rw[c9.ne (XX e)]
     exact(s7.trans s8) _ _ e
    ·rw[c9.ne (Ne.symm l5)]
     exact s8 _ _ (n7.same _ _ h56)
    ·rw[c9.at]
     simp only[J0,Jy,List.map_nil,List.cons_append]
  ·rintro σ H6 ⟨x3,x4,ts,rfl,s6,h56,e6,Mo⟩
   rw[Y3] at e6
   have r5:ka true K H6 qp (qq.2.map V.str):=Mm H6
   have r6:ka true K H6 p5 (args.map Arg.v):=br.of h56
   exact⟨⟨_,_,r5,r6,.inr (by rw[Jc];exact Je _)⟩,nx _ _ ⟨_,_,ts,rfl,s6,e6,Mo⟩⟩
 rintro σ H3 ⟨x3,x4,ts,rfl,s3,e3,mU⟩
 have ep:eM Fo wd args=some (Txt.join "" (aX Fo.b1 wd::ts)):=by unfold eM;rw[e3];rfl
 rw[ep] at q
 obtain⟨tl,tsum⟩:=kN fr ba.ok e3
 have c1:=fr.c1 wd
 refine⟨rfl,_,rfl,_,l,aX Fo.b1 wd::ts,rfl,rfl,bb.of mU,?_,q H3 s3⟩
 rw[J0,Ye]
 show(aX Fo.b1 wd).length+(ts.map fun x=>x.length).sum+_*0<=16777216
 omega
end
noncomputable def w6 (w:Str):Bool:=(["farjump", "farzero"]:List Str).contains w
theorem qe (n i:Nat):dw n (i+1)=(⟨#[48+n / 2^i%2]⟩:Str)++dw n i:=by
 refine fJ ?_
 rw[aK]
 show mD (i+1) n=[48+n / 2^i%2]++mD i n
 rw[<-gj,<-gj,List.range_succ,Jy,List.reverse_append]
 rfl
def wG:Sp:=fun vs H Q _=>∃w:Str,vs=[.str w]/\∀H',ao H H'->Q (.bl (w6 w)) H'
section
variable {P:Program}{w:World}{K:Ja}{mg:Str->Option Value}{base:Heap}{f:Addr}{fd:FuncData}
theorem eX:aA ["_law_many", "_law_found", "_law_k"] ["_law_many"] (aj (top ic)):=⟨rfl,rfl,rfl,by decide +kernel,rfl,by decide +kernel,by decide +kernel⟩
theorem FW (F:bO K "_law_power" "_law_power" (top ic) f fd)(T:Nm mg):bh P w K mg base eP 1 f fd ["_law_many"] oS:=by
 refine F.ok eX (fun vs H Q E h =>?_) (fun cG A outer s H vs Q E hr h =>?_)
 ·obtain⟨n,rfl,_⟩:=h
  rfl
 obtain⟨n,rfl,n1,q⟩:=h
 refine⟨_,(af (aF (i:=1) eX.nd rfl (Or.inl rfl) ah)
  (af (d7 PassesOwn.never rfl (dX rfl T.n_range (aa (pv 0) ae)) (aD (i:=2) eX.nd rfl (Or.inl rfl)) (ag (aF (i:=1) eX.nd rfl (Or.inl rfl) (aH sy ah (pv 1)))))
  (ag (av (pv 1))))),?_⟩
 refine⟨_,rfl,n,rfl,by omega,by omega,?_⟩
 refine eZ (lo:=0) (n:=n) (fun i σ H'=>∃x2,σ=[some (.int (n:Nat)),some (.int (2^i)),x2]/\H'=H) ⟨_,rfl,rfl⟩ ?_ ?_
 ·rintro i σ H2 hi ⟨x2,rfl,rfl⟩
  refine⟨_,rfl,.inl ⟨_,_,rfl,rfl,.inl ⟨by decide,by decide⟩,some (.int (0+i)),?_,rfl⟩⟩
  rw[Int.pow_succ,Int.mul_comm]
  rfl
 ·rintro σ H2 ⟨x2,rfl,rfl⟩
  exact⟨_,rfl,q⟩
theorem cH:aA ["_law_number", "_law_many", "_law_found", "_law_k"] ["_law_number", "_law_many"] (aj (top fQ)):=⟨rfl,rfl,rfl,by decide +kernel,rfl,by decide +kernel,by decide +kernel⟩
theorem Ho (F:bO K "_law_figures" "_law_figures" (top fQ) f fd)(T:Nm mg):bh P w K mg base eP 1 f fd ["_law_number", "_law_many"] oW:=by
 refine F.ok cH (fun vs H Q E h =>?_) (fun cG A outer s H vs Q E hr h =>?_)
 ·obtain⟨n,k,rfl,_⟩:=h
  rfl
 obtain⟨n,k,rfl,hk,q⟩:=h
 refine⟨_,(af (aF (i:=2) cH.nd rfl (Or.inl rfl) aq)
  (af (d7 PassesOwn.never rfl (dX rfl T.n_range (aa (pv 1) ae)) (aD (i:=3) cH.nd rfl (Or.inl rfl)) (af (aF (i:=2) cH.nd rfl (Or.inl rfl) (aH cE (bf kO rfl T.n_str (by rfl) (aa (aH iD (pv 0) ah) ae)) (pv 2)))
  (ag (aF (i:=0) cH.nd rfl (Or.inl rfl) (aH zt (pv 0) ah)))))
  (ag (av (pv 2))))),?_⟩
 refine⟨_,rfl,k,rfl,by omega,by omega,?_⟩
 refine eZ (lo:=0) (n:=k) (fun i σ H'=>∃x3,σ=[some (.int ((n / 2^i:Nat):Int)),some (.int (k:Nat)),some (.str (dw n i)),x3]/\H'=H) ⟨_,by simp;rfl,rfl⟩ ?_ ?_
 ·rintro i σ H2 hi ⟨x2,rfl,rfl⟩
  have lg:((n / 2^i%2:Nat):Int).natAbs.log2<1920:=by
   have hb:((n / 2^i%2:Nat):Int).natAbs=0∨((n / 2^i%2:Nat):Int).natAbs=1:=by omega
   rcases hb with z|z<;>rw[z]<;>decide
  have em:((n / 2^i:Nat):Int)%2=((n / 2^i%2:Nat):Int):=by omega
  refine⟨_,rfl,_,_,rfl,rfl,(by show(0:Int)<2;decide),_,rfl,by rw[em];exact lg,_,rfl,?_⟩
  rw[em,zh]
  have fl:=cL n i
  refine .inr (.inl ⟨_,_,rfl,rfl,Jh (show _<=100 by show 1+(dw n i).length<=100;omega) (by decide),?_⟩)
  have ed:((n / 2^i:Nat):Int) / 2=((n / 2^(i+1):Nat):Int):=by rw[Nat.pow_succ,<-Nat.div_div_eq_div_mul];omega
  refine⟨_,rfl,_,_,rfl,rfl,⟨by decide,by decide⟩,some (.int (0+i)),?_,rfl⟩
  rw[qe,<-ed]
  rfl
 ·rintro σ H2 ⟨x2,rfl,rfl⟩
  exact⟨_,rfl,q _ (ao.refl _)⟩
theorem mz:aA ["_law_word"] ["_law_word"] (aj (top fh)):=⟨rfl,rfl,rfl,by decide +kernel,rfl,by decide +kernel,by decide +kernel⟩
theorem Hb (F:bO K "_law_far_word" "_law_far_word" (top fh) f fd)(T:Nm mg):bh P w K mg base eP 1 f fd ["_law_word"] wG:=by
 refine F.ok mz (fun vs H Q E h =>?_) (fun cG A outer s H vs Q E hr h =>?_)
 ·obtain⟨w,rfl,_⟩:=h
  rfl
 obtain⟨wd,rfl,q⟩:=h
 refine⟨_,(ag (av (cQ (Mn K) (pv 0) (fu (aa aq (aa aq ae))) (by with_unfolding_all rfl)))),?_⟩
 refine⟨_,rfl,by show 2<=sizeLine;decide,fun p H1 n1 =>?_⟩
 refine⟨p,(["farjump", "farzero"]:List Str).map V.str,rfl,.inr (br.of n1.at),rfl,rfl,?_⟩
 rw[if_neg Jl,j5]
 exact q H1 n1.same
end
theorem Ly {x:Str}(h:1<=x.length):sg (Txt.slice x (some 1) none)=(sg x).drop 1:=by
 rw[PyProof.Rows.slice_from_eq (b:=(x.length:Int)) (by decide) (by omega) rfl]
 show(((sg x).drop (1:Int).toNat).take ((x.length:Int)-1).toNat).toArray.toList=_
 rw[List.toList_toArray,Yz]
 ·rfl
 ·rw[Y8,<-str_len]
  show x.length-1<=_
  omega
theorem AE (n k:Nat):Txt.slice (dw n k) (some 1) none=dw n (k-1):=by
 cases k with
 | zero=>
  show Txt.slice (dw n 0) (some 1) none=dw n 0
  exact(by decide +kernel:Txt.slice (⟨#[]⟩:Str) (some 1) none=⟨#[]⟩)
 | succ k=>
  refine fJ ((Ly (by rw[cL];omega)).trans ?_)
  rw[qe]
  show((⟨#[48+n / 2^k%2]⟩:Str)++dw n k).cps.toList.drop 1=_
  rw[aK]
  rfl
theorem Es (n k:Nat):dw (n+2^k) k=dw n k:=by
 refine fJ ?_
 show mD k (n+2^k)=mD k n
 rw[<-gj,<-gj]
 congr 1
 refine Yy fun j hj =>?_
 have hj:=List.mem_range.mp hj
 congr 1
 have e:2^k=2^(k-j-1)*2*2^j:=by
  rw[Nat.mul_assoc,Nat.mul_comm 2,<-Nat.pow_succ,<-Nat.pow_add]
  congr 1
  omega
 rw[e,Nat.add_mul_div_right _ _ (Nat.two_pow_pos j),Nat.add_mul_mod_self_right]
theorem DS {d:Int}{k:Nat}(h1:1<=k)(h:inD d k=true):kn d k=some (dw (d+2^k).toNat k):=by
 unfold kn
 rw[if_pos h]
 unfold inD at h
 rw[Jx,decide_eq_true_eq,decide_eq_true_eq] at h
 have p2:(2:Int)^k=2*2^(k-1):=by
  rw[show k=(k-1)+1 by omega,Int.pow_succ,Int.mul_comm];rfl
 have pp:(0:Int)<2^(k-1):=Int.pow_pos (by decide)
 by_cases c:d<0
 ·rw[if_pos c]
 ·rw[if_neg c]
  have:(d+2^k).toNat=d.toNat+2^k:=by
   have e:((2^k:Nat):Int)=2^k:=by push_cast;rfl
   omega
  rw[this,Es]
theorem JM (n s:Nat):2^s<=n↔s<cC n:=by
 unfold cC PySem.Builtin.Int.intBits
 by_cases h:n=0
 ·subst h
  have:=Nat.two_pow_pos s
  constructor
  ·intro z;omega
  ·intro z;exact absurd z (by simp)
 ·have hz:¬(((n:Nat):Int)==0)=true:=by simp;omega
  have e:((n:Nat):Int).natAbs=n:=rfl
  rw[e,if_neg hz,<-Nat.le_log2 h]
  omega
theorem join_cons (x:Str)(r:List Str):Txt.join "" (x::r)=x++Txt.join "" r:=by
 refine fJ ?_
 rw[dr,aK,dr,List.flatMap_cons]
theorem Ea (x r:List Str):Txt.join "" (x++r)=Txt.join "" x++Txt.join "" r:=by
 refine fJ ?_
 rw[dr,aK,dr,dr,List.flatMap_append]
theorem join_nil:Txt.join "" []=Str.empty:=rfl
theorem rA (x:Str):x++Str.empty=x:=by
 refine fJ ?_
 rw[aK]
 exact Ym _
theorem sX (x y z:Str):x++y++z=x++(y++z):=by
 refine fJ ?_
 rw[aK,aK,aK,aK,List.append_assoc]
theorem mN {F:Fb}:∀(xs:List Str) (r:List Arg),cc F (xs.map Arg.sp++r)=(cc F r).map fun ts=>xs.map (aX F.b2)++ts
 | [],r=>by
  show cc F r=_
  cases cc F r<;>rfl
 | x::xs,r=>by
  have ih:=mN (F:=F) xs r
  show(cc F (xs.map Arg.sp++r)).map (aX F.b2 x :: ·)=_
  rw[ih]
  cases cc F r<;>rfl
theorem eg {a:Arg}(h:a.kind = "spot"):∃x,a = .sp x:=by
 cases a<;>first|exact⟨_,rfl⟩|exact absurd h (of_decide_eq_false rfl)
theorem Hq {a:Arg}(h:a.kind = "number"):∃x,a = .nu x:=by
 cases a<;>first|exact⟨_,rfl⟩|exact absurd h (of_decide_eq_false rfl)
theorem HE {a:Arg}(h:a.kind = "many"):∃x,a = .ma x:=by
 cases a<;>first|exact⟨_,rfl⟩|exact absurd h (of_decide_eq_false rfl)
theorem yY {a:Arg}(h:a.kind = "near"):∃x,a = .ne x:=by
 cases a<;>first|exact⟨_,rfl⟩|exact absurd h (of_decide_eq_false rfl)
theorem yK {a:Arg}(h:a.kind = "far"):∃x,a = .fa x:=by
 cases a<;>first|exact⟨_,rfl⟩|exact absurd h (of_decide_eq_false rfl)
theorem E1 {α:Type}(a v: α)(ys:List α):we (a::(ys++[v])) (-1)=some v:=by
 have l:(a::(ys++[v])).length=ys.length+2:=by rw[Jn,Jp];rfl
 unfold we AN
 rw[l,if_neg (by decide),if_pos (by omega),show((-1:Int)+((ys.length+2:Nat):Int)).toNat=ys.length+1 by omega]
 show(ys++[v])[ys.length]? = some v
 rw[Ui (Je _),Nat.sub_self]
 rfl
theorem rg (a v:V)(ys:List V):ie (a::(ys++[v])) (some 1) (some (-1))=ys:=by
 have l:(a::(ys++[v])).length=ys.length+2:=by rw[Jn,Jp];rfl
 have e1:HT.cP (ys.length+2) 0 (some 1)=1:=by
  show HT.cP _ 0 (some ((1:Nat):Int))=1
  rw[HT.fM]
  omega
 have e2:HT.cP (ys.length+2) (ys.length+2) (some (-1))=ys.length+1:=by
  show(if (-1:Int)<0 then ((-1:Int)+((ys.length+2:Nat):Int)).toNat else min (-1:Int).toNat (ys.length+2))=_
  rw[if_pos (by decide)]
  omega
 unfold ie
 rw[l,e1,e2]
 show((ys++[v]).drop 0).take (ys.length+1-1)=ys
 rw[List.drop_zero,Nat.add_sub_cancel,List.take_left']
 rfl
theorem lz.sum {F:Fb}(h:lz F):∀xs:List Str,((xs.map (aX F.b2)).map fun x=>x.length).sum<=11*xs.length
 | []=>Je _
 | y::ys=>by
  have ih:=h.sum ys
  have:=h.c2 y
  rw[J0,J0,Ye,Jn]
  omega
theorem kz (xs:List Str):(Txt.join "" xs).length=(xs.map fun x=>x.length).sum:=by
 rw[str_len,dr,List.length_flatMap]
 rfl
noncomputable abbrev iY:List Str:=["jump", "zero", "farjump", "farzero"]
noncomputable abbrev uf:List Str:=["add", "take", "tell", "ask", "stop"]
noncomputable def jN (w:Str)(d:Int):Arg:=if w6 w=true then .fa d else .ne d
theorem hX.cls {w:Str}{as:List Arg}(b:hX w as):(w = "skip" /\ ∃n,as=[.ma n])∨(w∈iY/\∃(xs:List Str) (d:Int),xs.length<=1/\as=xs.map Arg.sp++[jN w d])∨(w = "set" /\ ∃x n,as=[.sp x,.nu n])∨(w∈uf/\∃xs:List Str,xs.length<=2/\as=xs.map Arg.sp):=by
 obtain⟨q,hq,rfl,ek⟩:=b.pt
 have n0:∀{as:List Arg},as.map Arg.kind=[]->as=[]:=fun h=>List.map_eq_nil_iff.mp h
 have n1:∀{as:List Arg} {a:Str} {r:List Str},as.map Arg.kind=a::r->∃x t,as=x::t/\x.kind=a/\t.map Arg.kind=r:=fun{as a r} h=>by
  cases as with
  | nil=>cases h
  | cons x t=>rw[J0] at h;injection h with h1 h2;exact⟨x,t,rfl,h1,h2⟩
 simp only[gN,Jv,Ue,or_false] at hq
 rcases hq with rfl|rfl|rfl|rfl|rfl|rfl|rfl|rfl|rfl|rfl|rfl
 ·obtain⟨a,t,rfl,h1,h⟩:=n1 ek
  obtain⟨c,t,rfl,h2,h⟩:=n1 h
  obtain rfl:=n0 h
  obtain⟨x,rfl⟩:=eg h1
  obtain⟨n,rfl⟩:=Hq h2
  exact .inr (.inr (.inl ⟨rfl,x,n,rfl⟩))
 ·obtain⟨a,t,rfl,h1,h⟩:=n1 ek
  obtain⟨c,t,rfl,h2,h⟩:=n1 h
  obtain rfl:=n0 h
  obtain⟨x,rfl⟩:=eg h1
  obtain⟨y,rfl⟩:=eg h2
  exact .inr (.inr (.inr ⟨by simp,[x,y],by simp,rfl⟩))
 ·obtain⟨a,t,rfl,h1,h⟩:=n1 ek
  obtain⟨c,t,rfl,h2,h⟩:=n1 h
  obtain rfl:=n0 h
  obtain⟨x,rfl⟩:=eg h1
  obtain⟨y,rfl⟩:=eg h2
  exact .inr (.inr (.inr ⟨by simp,[x,y],by simp,rfl⟩))
 ·obtain⟨a,t,rfl,h1,h⟩:=n1 ek
  obtain rfl:=n0 h
  obtain⟨x,rfl⟩:=eg h1
  exact .inr (.inr (.inr ⟨by simp,[x],by simp,rfl⟩))
 ·obtain⟨a,t,rfl,h1,h⟩:=n1 ek
  obtain rfl:=n0 h
  obtain⟨x,rfl⟩:=eg h1
  exact .inr (.inr (.inr ⟨by simp,[x],by simp,rfl⟩))
 ·obtain⟨a,t,rfl,h1,h⟩:=n1 ek
  obtain rfl:=n0 h
  obtain⟨d,rfl⟩:=yY h1
  exact .inr (.inl ⟨by simp,[],d,by decide,rfl⟩)
 ·obtain⟨a,t,rfl,h1,h⟩:=n1 ek
  obtain⟨c,t,rfl,h2,h⟩:=n1 h
  obtain rfl:=n0 h
  obtain⟨x,rfl⟩:=eg h1
  obtain⟨d,rfl⟩:=yY h2
  exact .inr (.inl ⟨by simp,[x],d,by simp,rfl⟩)
 ·obtain rfl:=n0 ek
  exact .inr (.inr (.inr ⟨by simp,[],by decide,rfl⟩))
 ·obtain⟨a,t,rfl,h1,h⟩:=n1 ek
  obtain rfl:=n0 h
  obtain⟨d,rfl⟩:=yK h1
  exact .inr (.inl ⟨by simp,[],d,by decide,rfl⟩)
 ·obtain⟨a,t,rfl,h1,h⟩:=n1 ek
  obtain⟨c,t,rfl,h2,h⟩:=n1 h
  obtain rfl:=n0 h
  obtain⟨x,rfl⟩:=eg h1
  obtain⟨d,rfl⟩:=yK h2
  exact .inr (.inl ⟨by simp,[x],d,by simp,rfl⟩)
 ·obtain⟨a,t,rfl,h1,h⟩:=n1 ek
  obtain rfl:=n0 h
  obtain⟨n,rfl⟩:=HE h1
  exact .inl ⟨rfl,n,rfl⟩
structure ow (K:Ja)(H:Hp)(lp:Addr)(F:Fb):Prop where
 ex:m7 fun r1 r2 r3=>bb K H lp [r1,r2,r3,.int (F.near:Nat),.int (F.bB:Nat)]/\aN K H [aI F.b1,aI F.b2,aI F.b3] [r1,r2,r3]
theorem ow.same {K:Ja}{H H':Hp}{lp:Addr}{F:Fb}(h:ow K H lp F)(s:ao H H'):ow K H' lp F:=by
 obtain⟨r1,r2,r3,h1,h2⟩:=h.ex
 exact⟨r1,r2,r3,s.seq h1,h2.same s⟩
def Mh (K:Ja):Sp:=fun vs H Q _=>wb fun(lp p:Addr) (F:Fb) (w:Str) (as:List Arg)=>vs=[.ref lp,.ref p]/\ow K H lp F/\lz F/\hX w as/\br K H p (.str w::as.map Arg.v)/\∀H',ao H H'->Q (E3 (eM F w as)) H'
theorem rW {K:Ja}{H:Hp}{bk:List (Str×Str)}{v:V}(h:Den K H (aI bk) v):∃(p:Addr) (as:List Addr),v = .ref p/\bb K H p (as.map V.ref)/\as.length=(eI bk).length/\∀(j:Nat) b (kv:Key×V),as[j]? = some b->(eI bk)[j]? = some kv->br K H b [kV kv.1,kv.2]:=by
 unfold aI Den at h
 obtain⟨a,us,rfl,hS,hd⟩:=h
 obtain⟨as,rfl,al,hT⟩:=sE hd
 exact⟨a,as,rfl,hS,by unfold eI;rw[Jc];exact al,hT⟩
theorem rM (bk:List (Str×Str)):(eI bk).length=bk.length:=by unfold eI;rw[Jc]
section
variable {P:Program}{w:World}{K:Ja}{mg:Str->Option Value}{base:Heap}{f:Addr}{fd:FuncData}
theorem bS:aA ["_law_parts_here", "_law_bare_here", "_law_kinds_here", "_law_spots", "_law_word", "_law_text", "_law_many", "_law_half", "_law_size"] ["_law_parts_here", "_law_bare_here"] (aj (top la)):=⟨rfl,rfl,rfl,by decide +kernel,rfl,by decide +kernel,by decide +kernel⟩
theorem PQ (F:bO K "_law_put" "_law_put" (top la) f fd)(T:Nm mg)(cA:mg "dict" = none)(iQ:Fn P w K mg base 1 "_law_sizes" [] (oA bt))(gc:Fn P w K mg base 1 "_law_figures" ["_law_number", "_law_many"] oW)(mq:Fn P w K mg base 1 "_law_power" ["_law_many"] oS)(ou:Fn P w K mg base 1 "_law_far_word" ["_law_word"] wG):bh P w K mg base eP 2 f fd ["_law_parts_here", "_law_bare_here"] (Mh K):=by
 refine F.ok bS (fun vs H Q E h =>?_) (fun cG A outer s H vs Q E hr h =>?_)
 ·obtain⟨lp,p,Fo,wd,as,rfl,_⟩:=h
  rfl
 obtain⟨lp,p,Fo,wd,args,rfl,hP,fr,ba,hp,q⟩:=h
 have hu:=nP hr
 have eT:=hr.units
 have small:∀{n:Nat},n<=10000->n<=sizeLine:=fun h=>Jh h (by decide)
 obtain⟨r1,r2,r3,hl,hD⟩:=hP.ex
 have l1:Fo.b1.length=11:=fr.g.l1
 have l2:Fo.b2.length=4:=fr.g.l2
 have l3:Fo.b3.length=9:=fr.g.l3
 have Xn:(Fo.b1.map (·.1)).Nodup:=fr.g.n1.nodup_iff.mpr cv
 have Zp:(Fo.b2.map (·.1)).Nodup:=fr.n2.nodup_iff.mpr Kx.nd
 have YG:(Fo.b3.map (·.1)).Nodup:=fr.n3.nodup_iff.mpr LN.nd
 obtain⟨qq,hqq,ew,ek⟩:=ba.pt
 have Qi:wd∈Fo.b1.map (·.1):=fr.g.n1.mem_iff.mpr (by rw[ew];exact(gG qq hqq).1)
 refine⟨_,(af (EF (fu (aa (bf (yR K rfl) rfl cA (by rfl) (aa (bp (fI K) (pv 0) ah (fun _ _=>rfl)) ae)) (aa (bf (yR K rfl) rfl cA (by rfl) (aa (bp (fI K) (pv 0) ah (fun _ _=>rfl)) ae)) ae))) (tupK K 2 rfl (aR (aD (i:=2) bS.nd rfl (Or.inl rfl)) (aR (aD (i:=3) bS.nd rfl (Or.inr rfl)) cu))))
  (af (aF (i:=4) bS.nd rfl (Or.inl rfl) (bp (fI K) (pv 1) ah (fun _ _=>rfl)))
  (af (aF (i:=5) bS.nd rfl (Or.inl rfl) (bM hu (pv 2) (pv 4) (fun _ _=>rfl)))
  (af (bA (aQ (qj K eT) (pv 4) aq (aV _)) (ag (av (aH cE (aH cE (pv 5) (aB (gc.mono (by decide)) hr rfl (aa (bp (fI K) (pv 1) ah (fun _ _=>rfl)) (aa ah ae)))) (aH MN aq (bp (fI K) (pv 1) ah (fun _ _=>rfl)))))) aM)
  (af (bA (aQ (Mn K) (pv 4) (fu (aa aq (aa aq (aa aq (aa aq ae))))) (by with_unfolding_all rfl)) (af (aF (i:=6) bS.nd rfl (Or.inl rfl) (bp (fI K) (pv 0) (aH cE ah (bf qP rfl T.n_int (by rfl) (aa (aB (ou.mono (by decide)) hr rfl (aa (pv 4) ae)) ae))) (fun _ _=>rfl)))
  (af (aF (i:=7) bS.nd rfl (Or.inl rfl) (aB (mq.mono (by decide)) hr rfl (aa (aH jz (pv 6) ah) ae)))
  (af (bA (PW.pt (lW (aQ l6 (bp (fI K) (pv 1) (jt fX ah) (fun _ _=>rfl)) (aH jz ah (pv 7)) (aV _)) (jV (aQ Ip (bp (fI K) (pv 1) (jt fX ah) (fun _ _=>rfl)) (pv 7) (aV _))))) (ag (av fz)) aM)
  (ag (av (aH cE (aH cE (pv 5) (uy K PySem.F.plainAttrs_str PySem.F.slot_str_join PySem.F.type_str_join (yP K) aq (aa (dG rfl (cq (Nc:=["_law_spot"]) (Fc:=["_law_spots"]) (js:=[3])) (kK K (da (DP K) (pv 1) (cF ah) (cF (jt fX ah)))) (bG (i:=0) (n:=1) (by decide)) (fun _ _ _ _ _=>(aD (i:=0) (qv ["_law_spot", "_law_spots"]) rfl (Or.inl rfl))) (fun _ _ _ _ _=>dg) (fun _ _ _ _ _=>(bM hu (pv 1) (pv 0) (fun _ _=>rfl)))) ae))) (aB (gc.mono (by decide)) hr rfl (aa (aH cE (bp (fI K) (pv 1) (jt fX ah) (fun _ _=>rfl)) (aH sy ah (pv 7))) (aa (pv 6) ae))))))))) aM)
  (af (bA (aQ (qj K eT) (pv 4) aq (aV _)) (af (aF (i:=8) bS.nd rfl (Or.inl rfl) ah)
  (af (pG PassesOwn.never (aQ my (aB (mq.mono (by decide)) hr rfl (aa (pv 8) ae)) (bp (fI K) (pv 1) ah (fun _ _=>rfl)) (aV _)) (ag (aF (i:=8) bS.nd rfl (Or.inl rfl) (aH cE (pv 8) ah))))
  (af (aF (i:=5) bS.nd rfl (Or.inl rfl) (aH cE (aH cE (pv 5) (bM hu (pv 3) (bp (fI K) (pv 1) ah (fun _ _=>rfl)) (fun _ _=>rfl))) (bM hu (bf (yR K rfl) rfl cA (by rfl) (aa (bp (fI K) (pv 0) ah (fun _ _=>rfl)) ae)) (bp (fI K) (wB (iQ.mono (by first|decide|exact Je _|omega)) hr rfl) (pv 8) (fun _ _=>rfl)) (fun _ _=>rfl))))
  (ag (av (aH cE (pv 5) (aB (gc.mono (by decide)) hr rfl (aa (bp (fI K) (pv 1) ah (fun _ _=>rfl)) (aa (ax (qw rfl) rfl T.n_max (by rfl) (aa ah (aa (aH jz (pv 8) ah) ae))) ae))))))))) aM)
  (ag (av (aH cE (pv 5) (uy K PySem.F.plainAttrs_str PySem.F.slot_str_join PySem.F.type_str_join (yP K) aq (aa (dG rfl (cq (Nc:=["_law_spot"]) (Fc:=["_law_spots"]) (js:=[3])) (kK K (da (DP K) (pv 1) (cF ah) gI)) (bG (i:=0) (n:=1) (by decide)) (fun _ _ _ _ _=>(aD (i:=0) (qv ["_law_spot", "_law_spots"]) rfl (Or.inl rfl))) (fun _ _ _ _ _=>dg) (fun _ _ _ _ _=>(bM hu (pv 1) (pv 0) (fun _ _=>rfl)))) ae))))))))))),?_⟩
 obtain⟨a1,as1,rfl,sq1,al1,IL⟩:=rW (jD (j:=0) hD rfl rfl)
 refine⟨_,rfl,.inl ⟨lp,_,0,.ref a1,rfl,rfl,hl,rfl,a1,as1,eI Fo.b1,rfl,sq1,al1,by rw[rM,l1];decide,IL,fun d1 H1 n1 =>?_⟩⟩
 rw[eJ Xn] at n1
 obtain⟨a2,as2,rfl,sq2,VX,hT2⟩:=rW ((jD (j:=1) hD rfl rfl).same n1.same)
 refine⟨_,rfl,.inl ⟨lp,_,1,.ref a2,rfl,rfl,n1.same.seq hl,rfl,a2,as2,eI Fo.b2,rfl,sq2,VX,by rw[rM,l2];decide,hT2,fun d2 H2 n2 =>?_⟩⟩
 rw[eJ Zp] at n2
 refine⟨by show 2<=sizeLine;decide,fun t3 H3 n3=>⟨t3,_,rfl,br.of n3.at,rfl,_,_,rfl,_,_,rfl,rfl,?_⟩⟩
 have s3:=n1.same.trans (n2.same.trans n3.same)
 have h1:=n3.same _ _ (n2.same _ _ n1.at)
 have h2:=n3.same _ _ n2.at
 have WZ:dz H3 d1 (.str wd) (some (.str (aX Fo.b1 wd))):=by
  rw[<-fB Qi]
  exact dz.k (k := .inr wd) h1
 have V6:∀{Hx:Hp} {x:Str},ao H3 Hx->x∈bP->dz Hx d2 (.str x) (some (.str (aX Fo.b2 x))):=fun s hx=>by
  rw[<-fB (fr.n2.mem_iff.mpr hx)]
  exact dz.k (k := .inr _) (s _ _ h2)
 have Lm:=s3.bU hp
 have c1:=fr.c1 wd
 refine⟨_,rfl,.inr (.inl ⟨p,_,0,.str wd,rfl,rfl,Lm,cX (Y1 0) rfl,gn ?_⟩)⟩
 refine⟨_,rfl,_,rfl,d1,_,rfl,WZ,gn ?_⟩
 rcases ba.cls with ⟨rfl,n,rfl⟩|⟨hw,xs,d,xl,rfl⟩|⟨rfl,x,n,rfl⟩|⟨hw,xs,xl,rfl⟩
 ·-- skip
  refine⟨_,rfl,.inl ⟨rfl,_,rfl,tm ?_⟩⟩
  have hn:n<=7:=ba.ok _ (Jz.mpr rfl)
  have ml:∀n,n<=7->(Txt.mul (Str.ofString "0") ((n:Nat):Int)).length<=10:=by decide +kernel
  have ml:=ml n hn
  have fl:=cL n 3
  refine⟨_,rfl,_,rfl,.inr (.inl ⟨p,_,1,.int (n:Nat),rfl,rfl,Lm,rfl,n,3,rfl,by decide,fun H4 s4 =>?_⟩)⟩
  refine .inr (.inl ⟨_,_,rfl,rfl,small (by omega),?_⟩)
  refine⟨_,rfl,.inr (.inl ⟨p,_,1,.int (n:Nat),rfl,rfl,s4.bU Lm,rfl,.inr ⟨_,_,rfl,rfl,l7 (by decide) (by omega) (by omega),?_⟩⟩)⟩
  refine .inr (.inl ⟨_,_,rfl,rfl,small (by rw[PySem.strLen_append];omega),?_⟩)
  have q:=q H4 (s3.trans s4)
  have e:eM Fo "skip" [.ma n]=some (aX Fo.b1 "skip" ++ dw n 3++Txt.mul (Str.ofString "0") (n:Nat)):=by
   show some (Txt.join "" [aX Fo.b1 "skip",dw n 3++Txt.mul (Str.ofString "0") (n:Nat)])=_
   rw[join_cons,join_cons,join_nil,rA,sX]
  rw[e] at q
  exact q
 ·-- jumps
  have Td:∀w∈iY,(w == "skip")=false/\iY.contains w=true:=by decide +kernel
  obtain⟨k1,k2⟩:=Td _ hw
  refine⟨_,rfl,.inl ⟨rfl,_,rfl,gu ?_ k1⟩⟩
  dsimp only[bZ]
  refine⟨_,rfl,by show 4<=sizeLine;decide,fun t4 H4 n4=>⟨t4,iY.map V.str,rfl,.inr (br.of n4.at),rfl,?_,_,rfl,JA ?_ k2⟩⟩
  ·rfl
  obtain⟨kk,ekk⟩:∃kk:Nat,kk=if w6 wd=true then Fo.bB else Fo.near:=⟨_,rfl⟩
  have nr:=fr.nr
  have ff:=fr.fr
  have kb:2<=kk/\kk<=16:=by rw[ekk];split<;>omega
  have s4:=s3.trans n4.same
  refine⟨_,rfl,_,rfl,wd,rfl,fun H5 s5 =>.inr ⟨w6 wd,rfl,.inl ⟨_,_,rfl,rfl,.inl ⟨lp,_,_,.int (kk:Nat),rfl,rfl,(s4.trans s5).seq hl,?_,gn ?_⟩⟩⟩⟩
  ·rw[ekk]
   cases w6 wd<;>rfl
  refine⟨_,rfl,_,_,rfl,rfl,kk-1,?_,by omega,gn ?_⟩
  ·show[V.int ((kk:Int)-1)]=[V.int ((kk-1:Nat):Int)]
   rw[show(kk:Int)-1=((kk-1:Nat):Int) by omega]
  have SM:=s5 _ _ (n4.same _ _ h2)
  have s5:=s4.trans s5
  have dk:d.natAbs<=1000000:=by
   have:=ba.ok (jN wd d) (Jw _ (Jz.mpr rfl))
   unfold jN at this
   split at this<;>exact this
  have ev:(jN wd d).v = .int d:=by unfold jN;split<;>rfl
  have eL:(xs.map Arg.sp++[jN wd d]).map Arg.v=xs.map V.str++[.int d]:=by rw[Jy,U0,J0,ev];rfl
  have Qv:=s5.bU hp
  rw[eL] at Qv
  have aL:=E1 (V.str wd) (V.int d) (xs.map V.str)
  have q0:inD d kk=false->∀H',ao H H'->Q .non H':=fun c H' s'=>by
   have q:=q H' s'
   have e:eM Fo wd (xs.map Arg.sp++[jN wd d])=none:=by
    have ea:dQ Fo (jN wd d)=none:=by
     have:dQ Fo (jN wd d)=kn d kk:=by
      rw[ekk]
      unfold jN
      cases w6 wd<;>rfl
     rw[this]
     unfold kn
     rw[c];rfl
    unfold eM
    rw[lP ea (Jw _ (Jz.mpr rfl))];rfl
   rw[e] at q
   exact q
  refine⟨_,rfl,_,rfl,.inr (.inl ⟨p,_,-1,.int d,rfl,rfl,Qv,aL,_,rfl,_,_,rfl,rfl,_,_,rfl,rfl,_,rfl,?_⟩)⟩
  refine eU (fun c=>bK (q0 ?_ _ s5)) (fun c =>?_)
  ·have c:d<0-2^(kk-1):=of_decide_eq_true c
   unfold inD
   rw[decide_eq_false (by omega),Yh]
  have Z4:¬d<0-2^(kk-1):=fun z=>c (decide_eq_true z)
  refine⟨_,rfl,_,rfl,.inr (.inl ⟨p,_,-1,.int d,rfl,rfl,Qv,aL,_,rfl,_,_,rfl,rfl,_,rfl,?_⟩)⟩
  refine eU (fun c=>q0 ?_ _ s5) (fun c =>?_)
  ·have c:2^(kk-1)<=d:=of_decide_eq_true c
   unfold inD
   rw[decide_eq_false (p:=d<2^(kk-1)) (by omega),Bool.and_false]
  have Z6:¬ 2^(kk-1)<=d:=fun z=>c (decide_eq_true z)
  have cin:inD d kk=true:=by
   unfold inD
   rw[decide_eq_true (by omega),decide_eq_true (by omega)];rfl
  dsimp only[bZ]
  refine⟨_,rfl,rfl,_,rfl,1,rfl,_,rfl,-1,rfl,p,_,rfl,Qv,?_,fun p6 H6 n6 =>?_⟩
  ·rintro⟨z,_⟩
   have:HT.cP (V.str wd::(xs.map V.str++[V.int d])).length 0 (some 1)=1:=by
    show HT.cP _ 0 (some ((1:Nat):Int))=1
    rw[HT.fM,Jn]
    omega
   rw[this] at z
   exact absurd z (by decide)
  rw[rg] at n6
  have s6:=s5.trans n6.same
  refine⟨p6,rfl,⟨_,br.of n6.at⟩,?_⟩
  refine dh (N:=xs.length) (fun i ys H'=>H'=H6/\ys=((xs.take i).map (aX Fo.b2)).map V.str) ⟨rfl,rfl⟩ ?_ ?_
  ·rintro i ys H7 Ny hi ⟨rfl,rfl⟩ ny
   have hv:(xs.map V.str)[i]? = some (.str xs[i]):=by rw[Ji,Jd hi];rfl
   refine⟨⟨_,_,br.of n6.at,hv⟩,J1 (show _<=100 by rw[Jc,Jc,Uq];omega) (by decide),?_⟩
   rintro x' H8 ⟨rfl,hy⟩
   have e:=hy _ (br.of n6.at)
   rw[hv] at e;cases e
   have RW:xs[i]∈bP:=ba.ok (.sp xs[i]) (Yq _ (Yx (Ub hi)))
   have XM:dz H8 d2 (.str xs[i]) (some (.str (aX Fo.b2 xs[i]))):=by
    rw[<-fB (fr.n2.mem_iff.mpr RW)]
    refine dz.k (k := .inr _) (n6.same _ _ ?_)
    exact SM
   refine gn ⟨_,rfl,_,rfl,d2,_,rfl,XM,ny _ _ ⟨rfl,?_⟩⟩
   rw[lS hi,Jy,Jy];rfl
  ·rintro ys H7 ⟨rfl,rfl⟩
   rw[Y3]
   refine⟨⟨_,br.of n6.at,by rw[Jc];exact Je _⟩,fun pv hpv =>?_⟩
   have jl:=fr.sum xs
   refine⟨_,pv,xs.map (aX Fo.b2),rfl,rfl,bb.of ay,?_,?_⟩
   ·show((xs.map (aX Fo.b2)).map fun x=>x.length).sum+_*0<=16777216
    omega
   have WO:=kz (xs.map (aX Fo.b2))
   refine .inr (.inl ⟨_,_,rfl,rfl,small (by omega),?_⟩)
   have s7:=s6.trans (bD hpv (.lst ((xs.map (aX Fo.b2)).map V.str)))
   have VH:=s7.bU hp
   rw[eL] at VH
   have p2:(2:Int)^kk=2*2^(kk-1):=by
    rw[show kk=(kk-1)+1 by omega,Int.pow_succ,Int.mul_comm];rfl
   have pp:(0:Int)<2^(kk-1):=Int.pow_pos (by decide)
   refine⟨_,rfl,_,rfl,.inr (.inl ⟨p,_,-1,.int d,rfl,rfl,VH,aL,_,rfl,.inl ⟨_,_,rfl,rfl,.inl ⟨by decide,by decide⟩,.inl ⟨_,_,rfl,rfl,_,rfl,(d+2^kk).toNat,kk,?_,by omega,fun H8 s8 =>?_⟩⟩⟩)⟩
   ·show[V.int (d+2*2^(kk-1)),V.int (kk:Nat)]=_
    rw[Yl (by omega),p2]
   have fl:=cL (d+2^kk).toNat kk
   refine .inr (.inl ⟨_,_,rfl,rfl,small (by rw[PySem.strLen_append];omega),?_⟩)
   have q:=q H8 (s7.trans s8)
   have e:eM Fo wd (xs.map Arg.sp++[jN wd d])=some (aX Fo.b1 wd++Txt.join "" (xs.map (aX Fo.b2))++dw (d+2^kk).toNat kk):=by
    have ea:dQ Fo (jN wd d)=some (dw (d+2^kk).toNat kk):=by
     rw[<-DS (by omega) cin,ekk]
     unfold jN
     cases w6 wd<;>rfl
    unfold eM
    rw[mN]
    have:cc Fo [jN wd d]=some [dw (d+2^kk).toNat kk]:=by
     show(match dQ Fo (jN wd d) with|none=>none|some x=>(some []).map (x :: ·))=_
     rw[ea];rfl
    rw[this]
    show some (Txt.join "" (aX Fo.b1 wd::(xs.map (aX Fo.b2)++[dw (d+2^kk).toNat kk])))=_
    rw[join_cons,Ea,join_cons,join_nil,rA,sX]
   rw[e] at q
   exact q
 ·-- set
  refine⟨_,rfl,.inl ⟨rfl,_,rfl,gu ?_⟩⟩
  dsimp only[bZ]
  refine⟨_,rfl,by show 4<=sizeLine;decide,fun t4 H4 n4=>⟨t4,iY.map V.str,rfl,.inr (br.of n4.at),rfl,rfl,_,rfl,Kw ?_⟩⟩
  dsimp only[bZ]
  refine⟨_,rfl,.inl ⟨rfl,_,rfl,tm ?_⟩⟩
  have hx:x∈bP:=ba.ok _ Jr
  have hn:n<=255:=ba.ok _ (Jo _ Jr)
  have hb:=xD hn
  have c2:=fr.c2 x
  obtain⟨z,hz⟩:∃z,bt[cC n]? = some z:=⟨_,Jd (show cC n<9 by omega)⟩
  have ez:bt.getD (cC n) Str.empty=z:=by rw[Uk,hz];rfl
  have c3:=fr.c3 z
  have YU:z∈Fo.b3.map (·.1):=fr.n3.mem_iff.mpr (J2 hz)
  refine gn ?_
  dsimp only
  refine iq (t:=mY _ _) (fun σ H' =>σ=[some (.ref lp),some (.ref p),some (.ref d1),some (.ref d2),some (.str "set"),some (.str (aX Fo.b1 "set")),none,none,some (.int (cC n:Nat))]/\H'=H4) (fun Nx nx =>?_) ?_
  ·refine rX (fun m σ H'=>∃k:Nat,m=cC n-k/\k<=cC n /\ σ=[some (.ref lp),some (.ref p),some (.ref d1),some (.ref d2),some (.str "set"),some (.str (aX Fo.b1 "set")),none,none,some (.int (k:Nat))]/\H'=H4) ⟨_,0,rfl,Um _,rfl,rfl⟩ ?_
   rintro m σ H5 ⟨k,rfl,hk,rfl,rfl⟩
   refine⟨_,rfl,k,rfl,by omega,?_⟩
   refine⟨_,rfl,.inr (.inl ⟨p,_,2,.int (n:Nat),rfl,rfl,n4.same.bU Lm,rfl,_,_,rfl,rfl,_,rfl,?_⟩)⟩
   have e2:(2:Int)^k<=(n:Nat)↔k<cC n:=by
    rw[<-JM]
    have:(2:Int)^k=((2^k:Nat):Int):=by push_cast;rfl
    omega
   refine eU (fun c =>?_) (fun c =>?_)
   ·have c:=e2.mp (of_decide_eq_true c)
    refine⟨fun σ' H'=>∃m',m'<cC n-k/\_,fun _ _ h=>h,?_⟩
    exact⟨_,rfl,.inl ⟨_,_,rfl,rfl,cC n-(k+1),by omega,k+1,rfl,by omega,rfl,rfl⟩⟩
   ·have c:¬k<cC n:=fun y=>c (decide_eq_true (e2.mpr y))
    have:k=cC n:=by omega
    subst this
    exact nx _ _ ⟨rfl,rfl⟩
  rintro σ H5 ⟨rfl,rfl⟩
  have s4:=s3.trans n4.same
  have Zo:=n4.same.bU Lm
  refine⟨_,rfl,_,rfl,_,rfl,.inr (.inl ⟨p,_,1,.str x,rfl,rfl,Zo,rfl,d2,_,rfl,V6 n4.same hx,?_⟩)⟩
  refine .inr (.inl ⟨_,_,rfl,rfl,small (by omega),?_⟩)
  obtain⟨a3,as3,rfl,sq3,al3,hT3⟩:=rW ((jD (j:=2) hD rfl rfl).same s4)
  refine⟨_,rfl,.inl ⟨lp,_,2,.ref a3,rfl,rfl,s4.seq hl,rfl,a3,as3,eI Fo.b3,rfl,sq3,al3,by rw[rM,l3];decide,hT3,fun d3 H6 n6 =>?_⟩⟩
  rw[eJ YG] at n6
  refine⟨rfl,fun ps H7 n7=>⟨_,rfl,.inl ⟨ps,_,_,.str z,rfl,rfl,bb.of n7.at,j9 (by rw[Ji];show(bt[cC n]?).map V.str=_;rw[hz];rfl),d3,_,rfl,by rw[<-fB YU];exact dz.k (k := .inr z) (n7.same _ _ n6.at),?_⟩⟩⟩
  refine .inr (.inl ⟨_,_,rfl,rfl,small (by rw[PySem.strLen_append];omega),gn ?_⟩)
  have s7:=s4.trans (n6.same.trans n7.same)
  have em:(if ((cC n:Nat):Int)-1>0 then ((cC n:Nat):Int)-1 else 0)=((cC n-1:Nat):Int):=by split<;>omega
  refine⟨_,rfl,_,rfl,.inr (.inl ⟨p,_,2,.int (n:Nat),rfl,rfl,s7.bU hp,rfl,_,rfl,_,_,rfl,rfl,0,_,rfl,n,cC n-1,(by show[V.int ((n:Nat):Int),V.int (if ((cC n:Nat):Int)-1>0 then ((cC n:Nat):Int)-1 else 0)]=_;rw[em]),by omega,fun H8 s8 =>?_⟩)⟩
  have fl:=cL n (cC n-1)
  refine .inr (.inl ⟨_,_,rfl,rfl,small (by rw[PySem.strLen_append,PySem.strLen_append];omega),?_⟩)
  have q:=q H8 (s7.trans s8)
  have e:eM Fo "set" [.sp x,.nu n]=some (aX Fo.b1 "set" ++ aX Fo.b2 x++aX Fo.b3 z++dw n (cC n-1)):=by
   show some (Txt.join "" [aX Fo.b1 "set",aX Fo.b2 x,aX Fo.b3 (bt.getD (cC n) Str.empty)++Txt.slice (dw n (cC n)) (some 1) none])=_
   rw[join_cons,join_cons,join_cons,join_nil,rA,ez,AE,sX,sX]
  rw[e] at q
  exact q
 ·-- the others
  have Td:∀w∈uf,(w == "skip")=false/\iY.contains w=false/\(w == "set")=false:=by decide +kernel
  obtain⟨k1,k2,k3⟩:=Td _ hw
  refine⟨_,rfl,.inl ⟨rfl,_,rfl,gu ?_ k1⟩⟩
  dsimp only[bZ]
  refine⟨_,rfl,by show 4<=sizeLine;decide,fun t4 H4 n4=>⟨t4,iY.map V.str,rfl,.inr (br.of n4.at),rfl,?_,_,rfl,Kw ?_ k2⟩⟩
  ·rfl
  dsimp only[bZ]
  refine⟨_,rfl,.inl ⟨rfl,_,rfl,gu ?_ k3⟩⟩
  dsimp only[bZ]
  have s4:=s3.trans n4.same
  refine⟨_,rfl,rfl,_,rfl,1,rfl,p,_,rfl,s4.bU hp,?_,fun p5 H5 n5 =>?_⟩
  ·rintro⟨z,_⟩
   have:HT.cP (V.str wd::(xs.map Arg.sp).map Arg.v).length 0 (some 1)=1:=by
    show HT.cP _ 0 (some ((1:Nat):Int))=1
    rw[HT.fM,Jn]
    omega
   rw[this] at z
   exact absurd z (by decide)
  rw[show(1:Int)=((1:Nat):Int) from rfl,vI] at n5
  have e5:(V.str wd::(xs.map Arg.sp).map Arg.v).drop 1=xs.map V.str:=by rw[List.drop_succ_cons,List.drop_zero,U0];rfl
  rw[e5] at n5
  have s5:=s4.trans n5.same
  refine⟨p5,rfl,⟨_,br.of n5.at⟩,?_⟩
  refine dh (N:=xs.length) (fun i ys H'=>H'=H5/\ys=((xs.take i).map (aX Fo.b2)).map V.str) ⟨rfl,rfl⟩ ?_ ?_
  ·rintro i ys H6 Ny hi ⟨rfl,rfl⟩ ny
   have hv:(xs.map V.str)[i]? = some (.str xs[i]):=by rw[Ji,Jd hi];rfl
   refine⟨⟨_,_,br.of n5.at,hv⟩,J1 (show _<=100 by rw[Jc,Jc,Uq];omega) (by decide),?_⟩
   rintro x' H7 ⟨rfl,hy⟩
   have e:=hy _ (br.of n5.at)
   rw[hv] at e;cases e
   have RW:xs[i]∈bP:=ba.ok (.sp xs[i]) (Yx (Ub hi))
   refine gn ⟨_,rfl,_,rfl,d2,_,rfl,V6 (n4.same.trans n5.same) RW,ny _ _ ⟨rfl,?_⟩⟩
   rw[lS hi,Jy,Jy];rfl
  ·rintro ys H6 ⟨rfl,rfl⟩
   rw[Y3]
   refine⟨⟨_,br.of n5.at,by rw[Jc];exact Je _⟩,fun pv hpv =>?_⟩
   have jl:=fr.sum xs
   refine⟨_,pv,xs.map (aX Fo.b2),rfl,rfl,bb.of ay,?_,?_⟩
   ·show((xs.map (aX Fo.b2)).map fun x=>x.length).sum+_*0<=16777216
    omega
   have WO:=kz (xs.map (aX Fo.b2))
   refine .inr (.inl ⟨_,_,rfl,rfl,small (by omega),?_⟩)
   have q:=q _ (s5.trans (bD hpv (.lst ((xs.map (aX Fo.b2)).map V.str))))
   have e:eM Fo wd (xs.map Arg.sp)=some (aX Fo.b1 wd++Txt.join "" (xs.map (aX Fo.b2))):=by
    have:=mN (F:=Fo) xs []
    rw[Ym] at this
    unfold eM
    rw[this]
    show some (Txt.join "" (aX Fo.b1 wd::(xs.map (aX Fo.b2)++[])))=_
    rw[Ym,join_cons]
   rw[e] at q
   exact q
end
noncomputable abbrev cN:List Str:=["set", "add", "take", "tell", "ask", "jump", "zero", "stop"]
noncomputable def zj (bB:Bool)(w:Str)(as:List Arg)(d:Int):Str×List Arg:=
 if w = "jump" ∨ w = "zero" then
  (if bB=true then Str.ofString "far" ++ w else w,as.dropLast++[if bB=true then .fa d else .ne d])
 else (w,as)
def Ks (K:Ja):Sp:=fun vs H Q _=>wb fun(p:Addr) (bB:Bool) (d:Int) (w:Str) (as:List Arg)=>vs=[.ref p,.bl bB,.int d]/\hX w as/\w∈cN/\br K H p (.str w::as.map Arg.v) /\
 ∀p' H',ao H H'->br K H' p' (.str (zj bB w as d).1::(zj bB w as d).2.map Arg.v)->Q (.ref p') H'
section
variable {P:Program}{w:World}{K:Ja}{mg:Str->Option Value}{base:Heap}{f:Addr}{fd:FuncData}{aJ:Addr}
theorem m6:aA ["row", "far", "distance", "kind"] ["row", "far", "distance"] (aj (top kX)):=⟨rfl,rfl,rfl,by decide +kernel,rfl,by decide +kernel,by decide +kernel⟩
theorem GP (F:bO K "bare_of" "bare_of" (top kX) f fd)(T:Nm mg)(ja:mg "JUMPS" = some (.ref aJ))(hJ:∀H,br K H aJ [V.str "jump",V.str "zero"]):bh P w K mg base eP 1 f fd ["row", "far", "distance"] (Ks K):=by
 refine F.ok m6 (fun vs H Q E h =>?_) (fun cG A outer s H vs Q E hr h =>?_)
 ·obtain⟨p,bB,d,wd,as,rfl,_⟩:=h
  rfl
 obtain⟨p,bB,d,wd,as,rfl,ba,hw,hp,q⟩:=h
 have So:=FE hr
 refine⟨_,(af (bA (aQ (FD K So) (bp (fI K) (pv 0) ah (fun _ _=>rfl)) (gR rfl ja) (by with_unfolding_all rfl)) (ag (av (pv 0))) aM)
  (af (aF (i:=3) m6.nd rfl (Or.inl rfl) (gA (cf (pv 1)) (aH cE aq (bp (fI K) (pv 0) ah (fun _ _=>rfl))) (bp (fI K) (pv 0) ah (fun _ _=>rfl))))
  (ag (av (aH (FH K) (aH (FH K) (fu (aa (pv 3) ae)) (da (DP K) (pv 0) (cF ah) (cF (jt fX ah)))) (fu (aa (pv 2) ae))))))),?_⟩
 refine⟨_,rfl,.inr (.inl ⟨p,_,0,.str wd,rfl,rfl,hp,cX (Y1 0) rfl,?_⟩)⟩
 have dj:∀Hx,aN K Hx [.str "jump",.str "zero"] [V.str "jump",V.str "zero"]:=fun _=>bL wA (bL wA mr)
 have hd:∀w∈cN,(PyData.str w).canLay0=true/\L2.inD (.str w) [.str "jump",.str "zero"]=decide (w = "jump" ∨ w = "zero"):=by decide +kernel
 obtain⟨k1,k2⟩:=hd _ hw
 have sh:∀e∈([.str "jump",.str "zero"]:List PyData),SeqAt.shaped e=true:=fun e he=>by
  simp only[Jv,Ue,or_false] at he
  rcases he with rfl|rfl<;>decide +kernel
 refine⟨aJ,_,.str wd,[.str "jump",.str "zero"],rfl,.inr (hJ _),wA,dj _,k1,sh,?_⟩
 rw[k2,if_pos rfl]
 unfold zj at q
 by_cases c:wd = "jump" ∨ wd = "zero"
 ·rw[if_pos c] at q
  rw[decide_eq_true c]
  refine⟨_,rfl,bF ?_⟩
  dsimp only[bZ]
  refine fA (te:=Va _ _ _) (fun v H'=>v = .str (if bB=true then Str.ofString "far" ++ wd else wd)/\H'=H) (fun Qn qn =>?_) ?_
  ·refine⟨_,rfl,bB,rfl,?_⟩
   cases bB with
   | true=>exact bK ⟨_,rfl,.inr (.inl ⟨p,_,0,.str wd,rfl,rfl,hp,cX (Y1 0) rfl,.inr (.inl ⟨_,_,rfl,rfl,by rcases c with rfl|rfl<;>decide,qn _ _ ⟨rfl,rfl⟩⟩)⟩)⟩
   | false=>exact bF ⟨_,rfl,.inr (.inl ⟨p,_,0,.str wd,rfl,rfl,hp,cX (Y1 0) rfl,qn _ _ ⟨rfl,rfl⟩⟩)⟩
  rintro v H1 ⟨rfl,rfl⟩
  refine gn ?_
  obtain⟨xs,d0,xl,ea⟩:∃(xs:List Str) (d0:Int),xs.length<=1/\as=xs.map Arg.sp++[.ne d0]:=by
   rcases ba.cls with ⟨rfl,_⟩|⟨_,xs,d0,xl,e⟩|⟨rfl,_⟩|⟨h,_⟩
   ·exact absurd c (by decide +kernel)
   ·refine⟨xs,d0,xl,?_⟩
    rw[e]
    rcases c with rfl|rfl<;>rfl
   ·exact absurd c (by decide +kernel)
   ·exact absurd c ((by decide +kernel:∀w∈uf,¬(w = "jump" ∨ w = "zero")) _ h)
  subst ea
  rw[List.dropLast_concat,Jy,U0] at q
  rw[Jy,U0] at hp
  generalize hk:(if bB=true then Str.ofString "far" ++ wd else wd)=kd at q ⊢
  have hp:br K H1 p (.str wd::(xs.map V.str++[.int d0])):=hp
  refine⟨_,rfl,by show 1<=sizeLine;decide,fun p1 H2 n1 =>?_⟩
  refine⟨_,rfl,1,rfl,_,rfl,-1,rfl,p,_,rfl,n1.same.bU hp,?_,fun p6 H6 n6 =>?_⟩
  ·rintro⟨z,_⟩
   have:HT.cP (V.str wd::(xs.map V.str++[V.int d0])).length 0 (some 1)=1:=by
    show HT.cP _ 0 (some ((1:Nat):Int))=1
    rw[HT.fM,Jn]
    omega
   rw[this] at z
   exact absurd z (by decide)
  rw[rg] at n6
  have fin:∀p2 H7,ao H1 H7->H7 p2=some (.tup (V.str kd::xs.map V.str))->yA (y6 (Dw 2) B8) [some (.ref p),some (.bl bB),some (.int d),some (.str kd)] H7 (fun y H8=>HM K (.ref p2) y H8 Q):=fun p2 H7 s7 h2=>by
   refine⟨_,rfl,by show 1<=sizeLine;decide,fun p3 H8 n8=>⟨p2,p3,_,_,rfl,rfl,br.of (n8.same _ _ h2),br.of n8.at,?_,by simp,(fun e=>nomatch e),fun _ p9 H9 n9 =>?_⟩⟩
   ·rw[Jn,Jc]
    show xs.length+1+1<=100000
    omega
   refine q p9 H9 (s7.trans (n8.same.trans n9.same)) ?_
   have e:(V.str kd::xs.map V.str)++[V.int d]=V.str kd::(List.map (Arg.v∘Arg.sp) xs++List.map Arg.v [if bB=true then Arg.fa d else Arg.ne d]):=by
    cases bB<;>rfl
   rw[<-e]
   exact br.of n9.at
  cases xs with
  | nil=>
   refine⟨p1,p6,_,_,rfl,rfl,br.of (n6.same _ _ n1.at),br.of n6.at,by show 1+0<=100000;decide,by simp,fun _=>fin p1 H6 (n1.same.trans n6.same) (n6.same _ _ n1.at),fun z=>absurd rfl z⟩
  | cons x ys=>
   refine⟨p1,p6,_,_,rfl,rfl,br.of (n6.same _ _ n1.at),br.of n6.at,?_,by simp,(fun z=>nomatch z),fun _ p7 H7 n7=>fin p7 H7 (n1.same.trans (n6.same.trans n7.same)) n7.at⟩
   rw[Jc]
   show 1+(x::ys).length<=100000
   omega
 ·rw[if_neg c] at q
  rw[decide_eq_false c]
  exact⟨_,rfl,bK ⟨_,rfl,q p H (ao.refl _) hp⟩⟩
end
theorem qH {F:Fb}:∀{as:List Arg},(∀a∈as,∃x,dQ F a=some x)->∃ts,cc F as=some ts
 | [],_=>⟨[],rfl⟩
 | a::as,h=>by
  obtain⟨x,hx⟩:=h a Jr
  obtain⟨ts,ht⟩:=qH (F:=F) (as:=as) fun b hb=>h b (Jo _ hb)
  refine⟨x::ts,?_⟩
  show(match dQ F a with|none=>none|some x=>(cc F as).map (x :: ·))=_
  rw[hx,ht];rfl
theorem V4 (k:Nat):inD 0 k=true:=by
 unfold inD
 have pp:(0:Int)<2^(k-1):=Int.pow_pos (by decide)
 rw[decide_eq_true (by omega),decide_eq_true pp];rfl
theorem C5 {F:Fb}{w:Str}{as:List Arg}(bB:Bool)(ba:hX w as)(hw:w∈cN):hX (zj bB w as 0).1 (zj bB w as 0).2/\∃x,eM F (zj bB w as 0).1 (zj bB w as 0).2=some x:=by
 have ps:∀{w':Str} {as':List Arg},(∀a∈as',∃x,dQ F a=some x)->∃x,eM F w' as'=some x:=fun h=>by
  obtain⟨ts,ht⟩:=qH h
  unfold eM
  rw[ht]
  exact⟨_,rfl⟩
 have d0:∀k,∃x,kn 0 k=some x:=fun k=>by
  unfold kn
  rw[V4]
  exact⟨_,rfl⟩
 unfold zj
 by_cases c:w = "jump" ∨ w = "zero"
 ·rw[if_pos c]
  obtain⟨q,hq,e1,e2⟩:=ba.pt
  have hk:∀q∈gN,(q.1 = "jump" -> q.2=(["near"]:List Str))/\(q.1 = "zero" -> q.2=(["spot", "near"]:List Str)):=by decide +kernel
  have kq:=hk q hq
  rw[<-e1] at kq
  have fin:∀{w':Str} {as':List Arg} {a:Arg},(∀b∈as',b.ok/\∃x,b = .sp x)->(a = .ne 0∨a = .fa 0)->(∃q∈gN,w'=q.1/\(as'++[a]).map Arg.kind=q.2)->hX w' (as'++[a])/\∃x,eM F w' (as'++[a])=some x:=fun h1 h2 h3=>by
   refine⟨⟨h3,fun b hb =>?_⟩,ps fun b hb =>?_⟩
   ·rcases Ug.mp hb with hb|hb
    ·exact(h1 b hb).1
    ·rw[Jz.mp hb]
     rcases h2 with rfl|rfl<;>exact Um _
   ·rcases Ug.mp hb with hb|hb
    ·obtain⟨x,rfl⟩:=(h1 b hb).2
     exact⟨_,rfl⟩
    ·rw[Jz.mp hb]
     rcases h2 with rfl|rfl
     ·exact d0 _
     ·exact d0 _
  rcases c with rfl|rfl
  ·rw[kq.1 rfl] at e2
   have hl:=congrArg List.length e2
   rw[Jc] at hl
   obtain⟨a,rfl⟩:=List.length_eq_one_iff.mp (show as.length=1 from hl)
   cases bB with
   | true=>exact fin (as':=[]) (fun b hb=>nomatch hb) (.inr rfl) ⟨("farjump",["far"]),by simp,rfl,rfl⟩
   | false=>exact fin (as':=[]) (fun b hb=>nomatch hb) (.inl rfl) ⟨("jump",["near"]),by simp,rfl,rfl⟩
  ·rw[kq.2 rfl] at e2
   have hl:=congrArg List.length e2
   rw[Jc] at hl
   obtain⟨a,t,rfl⟩:∃a t,as=a::t:=by
    cases as with
    | nil=>exact absurd (show 0=2 from hl) (by decide)
    | cons a t=>exact⟨a,t,rfl⟩
   obtain⟨d,rfl⟩:=List.length_eq_one_iff.mp (show t.length=1 by rw[Jn] at hl;exact Nat.succ.inj hl)
   obtain⟨x,rfl⟩:=eg (show a.kind = "spot" from Option.some.inj (congrArg List.head? e2))
   have hx:∀b∈([.sp x]:List Arg),b.ok/\∃y,b = .sp y:=fun b hb=>by
    rw[Jz.mp hb]
    exact⟨ba.ok _ Jr,x,rfl⟩
   cases bB with
   | true=>exact fin (as':=[.sp x]) hx (.inr rfl) ⟨("farzero",["spot", "far"]),by simp,rfl,rfl⟩
   | false=>exact fin (as':=[.sp x]) hx (.inl rfl) ⟨("zero",["spot", "near"]),by simp,rfl,rfl⟩
 ·rw[if_neg c]
  refine⟨ba,ps fun a ha =>?_⟩
  rcases ba.cls with ⟨rfl,_⟩|⟨h,xs,d,xl,rfl⟩|⟨rfl,x,n,rfl⟩|⟨h,xs,xl,rfl⟩
  ·exact absurd hw (by decide +kernel)
  ·exact absurd hw ((by decide +kernel:∀w∈iY,¬(w = "jump" ∨ w = "zero")->¬w∈cN) _ h c)
  ·simp only[Jv,Ue,or_false] at ha
   rcases ha with rfl|rfl<;>exact⟨_,rfl⟩
  ·obtain⟨x,_,rfl⟩:=Uh.mp ha
   exact⟨_,rfl⟩
def Dq (K:Ja)(CF:Addr):Sp:=fun vs H Q _=>Ch fun(m p:Addr) (F:Fb) (w:Str) (as:List Arg) (x:Str)=>vs=[.ref m,.ref p]/\kG K CF H m F/\lz F/\hX w as/\br K H p (.str w::as.map Arg.v)/\eM F w as=some x/\∀H',ao H H'->Q (.str x) H'
theorem LQ {K:Ja}{CF C:Addr}{vs:List V}{H:Hp}{Q:VK}{E:XK}(h:Dq K CF vs H Q E):Ll K CF C vs H Q (fun _ _ _=>False):=by
 obtain⟨m,p,F,w,as,x,rfl,fo,fr,ba,hp,e,q⟩:=h
 refine⟨m,p,F,w,as,rfl,fo,fr,ba,hp,?_⟩
 rw[e]
 exact q
theorem rR {F:Fb}(fr:lz F){w:Str}{as:List Arg}(b:hX w as){x:Str}(e:eM F w as=some x):x.length<=100:=by
 unfold eM at e
 cases ea:cc F as with
 | none=>rw[ea] at e;cases e
 | some ts=>
  rw[ea] at e
  obtain⟨tl,tsum⟩:=kN fr b.ok ea
  obtain⟨q,hq,_,ek⟩:=b.pt
  have al:=(gG q hq).2
  rw[<-ek,Jc] at al
  have jl:=kz (aX F.b1 w::ts)
  rw[J0,Ye] at jl
  have c1:=fr.c1 w
  cases e
  show(Txt.join "" (aX F.b1 w::ts)).length<=100
  omega
noncomputable def yL (F:Fb)(bB:Bool)(w:Str)(as:List Arg):Nat:=((eM F (zj bB w as 0).1 (zj bB w as 0).2).getD Str.empty).length
def KJ (K:Ja)(CF:Addr):Sp:=fun vs H Q _=>Ch fun(m p:Addr) (bB:Bool) (F:Fb) (w:Str) (as:List Arg)=>vs=[.ref m,.ref p,.bl bB]/\kG K CF H m F/\lz F/\hX w as/\w∈cN/\br K H p (.str w::as.map Arg.v)/\∀H',ao H H'->Q (.int (yL F bB w as:Nat)) H'
section
variable {P:Program}{w:World}{K:Ja}{mg:Str->Option Value}{base:Heap}{f:Addr}{fd:FuncData}{CF:Addr}
theorem uV:aA ["form", "row", "far"] ["form", "row", "far"] (aj (top jC)):=⟨rfl,rfl,rfl,by decide +kernel,rfl,by decide +kernel,by decide +kernel⟩
theorem Gb (F:bO K "row_size" "row_size" (top jC) f fd)(T:Nm mg)(ym:Fn P w K mg base 5 "put_bare" ["form", "bare"] (Dq K CF))(Bm:Fn P w K mg base 1 "bare_of" ["row", "far", "distance"] (Ks K)):bh P w K mg base eP 6 f fd ["form", "row", "far"] (KJ K CF):=by
 refine F.ok uV (fun vs H Q E h =>?_) (fun cG A outer s H vs Q E hr h =>?_)
 ·obtain⟨m,p,bB,Fo,wd,as,rfl,_⟩:=h
  rfl
 obtain⟨m,p,bB,Fo,wd,as,rfl,fo,fr,ba,hw,hp,q⟩:=h
 refine⟨_,(ag (av (ax (ia K) rfl T.n_len (by rfl) (aa (aB (ym.mono (by decide)) hr rfl (aa (pv 0) (aa (aB (Bm.mono (by decide)) hr rfl (aa (pv 1) (aa (pv 2) (aa ah ae)))) ae))) ae)))),?_⟩
 obtain⟨b2,x,ex⟩:=C5 (F:=Fo) bB ba hw
 refine⟨_,rfl,_,rfl,_,rfl,p,bB,0,wd,as,rfl,ba,hw,hp,fun p' H1 s1 qL=>⟨m,p',Fo,_,_,x,rfl,fo.same s1,fr,b2,qL,ex,fun H2 s2 =>?_⟩⟩
 have q:=q H2 (s1.trans s2)
 unfold yL at q
 rw[ex] at q
 exact⟨_,_,rfl,⟨Jh (rR fr b2 ex) (by decide),rfl⟩,q⟩
end
def IJ (K:Ja)(H:Hp)(pg:Addr)(rs:List (Str×List Arg)):Prop:=∃as:List Addr,bb K H pg (as.map V.ref)/\as.length=rs.length/\∀(i:Nat) a r,as[i]? = some a->rs[i]? = some r->br K H a (.str r.1::r.2.map Arg.v)
theorem IJ.same {K:Ja}{H H':Hp}{pg:Addr}{rs:List (Str×List Arg)}(h:IJ K H pg rs)(s:ao H H'):IJ K H' pg rs:=by
 obtain⟨as,h1,h2,h3⟩:=h
 exact⟨as,s.seq h1,h2,fun i a r e1 e2=>s.bU (h3 i a r e1 e2)⟩
abbrev LS (rs:List (Str×List Arg)):Prop:=rs.length<=60/\∀r∈rs,hX r.1 r.2/\r.1∈cN
noncomputable def mf (s:Nat->Nat):Nat->Nat
 | 0=>0
 | j+1=>mf s j+s j
noncomputable def pR (s:Nat->Nat)(n:Nat):List V:=(Uy (n+1)).map fun j =>.int (mf s j:Nat)
theorem i9 (s:Nat->Nat)(n:Nat):(pR s n).length=n+1:=by unfold pR;rw[Jc,List.length_range]
theorem vF (s:Nat->Nat)(n:Nat):pR s (n+1)=pR s n++[.int (mf s (n+1):Nat)]:=by
 unfold pR
 rw[List.range_succ,Jy];rfl
theorem uQ (s:Nat->Nat)(n:Nat):we (pR s n) (-1)=some (.int (mf s n:Nat)):=by
 unfold we AN
 rw[i9,if_neg (by decide),if_pos (by omega),show((-1:Int)+((n+1:Nat):Int)).toNat=n by omega]
 show(pR s n)[n]? = some _
 unfold pR
 rw[Ji,List.getElem?_range (by omega)];rfl
def VD (K:Ja)(H:Hp)(p:Addr)(zs:List (Nat×Nat)):Prop:=∃as:List Addr,bb K H p (as.map V.ref)/\as.length=zs.length/\∀(i:Nat) a (z:Nat×Nat),as[i]? = some a->zs[i]? = some z->br K H a [.int (z.1:Nat),.int (z.2:Nat)]
noncomputable def uI (F:Fb)(r:Str×List Arg):Nat×Nat:=(yL F false r.1 r.2,yL F true r.1 r.2)
def Lg (K:Ja)(CF:Addr):Sp:=fun vs H Q _=>qi fun(m pg:Addr) (F:Fb) (rs:List (Str×List Arg))=>vs=[.ref m,.ref pg]/\kG K CF H m F/\lz F/\LS rs/\IJ K H pg rs/\∀p H',ao H H'->VD K H' p (rs.map (uI F))->Q (.ref p) H'
noncomputable def kA (zs:List (Nat×Nat))(fs:List Int)(i:Nat):Nat:=if (i:Int)∈fs then (zs.getD i (0,0)).2 else (zs.getD i (0,0)).1
def Kt (K:Ja):Sp:=fun vs H Q _=>qi fun(p fr:Addr) (zs:List (Nat×Nat)) (fs:List Int)=>vs=[.ref p,.ref fr]/\VD K H p zs/\zs.length<=60/\bb K H fr (fs.map V.int)/\fs.length<=60 /\
 ∀q H',ao H H'->H q=none->H' q=some (.lst (pR (kA zs fs) zs.length))->Q (.ref q) H'
def K3 (K:Ja)(CF:Addr):Sp:=fun vs H Q _=>Ch fun(m pg fr:Addr) (F:Fb) (rs:List (Str×List Arg)) (fs:List Int)=>vs=[.ref m,.ref pg,.ref fr]/\kG K CF H m F/\lz F/\LS rs/\IJ K H pg rs/\bb K H fr (fs.map V.int)/\fs.length<=60 /\
 ∀q H',ao H H'->H q=none->H' q=some (.lst (pR (kA (rs.map (uI F)) fs) rs.length))->Q (.ref q) H'
theorem DE {kvs:List (Key×V)}{k:Key}{v:V}:(putK kvs k v).length<=kvs.length+1:=by
 have:=eN kvs k v
 omega
section
variable {P:Program}{w:World}{K:Ja}{mg:Str->Option Value}{base:Heap}{f:Addr}{fd:FuncData}{CF:Addr}
theorem sL:aA ["form", "program"] ["form", "program"] (aj (top iH)):=⟨rfl,rfl,rfl,by decide +kernel,rfl,by decide +kernel,by decide +kernel⟩
theorem GV (F:bO K "row_sizes" "row_sizes" (top iH) f fd)(T:Nm mg)(m8:Fn P w K mg base 6 "row_size" ["form", "row", "far"] (KJ K CF)):bh P w K mg base eP 7 f fd ["form", "program"] (Lg K CF):=by
 refine F.ok sL (fun vs H Q E h =>?_) (fun cG A outer s H vs Q E hr h =>?_)
 ·obtain⟨m,pg,Fo,rs,rfl,_⟩:=h
  rfl
 obtain⟨m,pg,Fo,rs,rfl,fo,fr,⟨rl,ok⟩,⟨as,hS,al,hT⟩,q⟩:=h
 refine⟨_,(ag (av (dG rfl (cq (Nc:=["row"]) (Fc:=["form"]) (js:=[0])) (G7 K (pv 1)) (bG (i:=0) (n:=1) (by decide)) (fun _ _ _ _ _=>(aD (i:=0) (qv ["row", "form"]) rfl (Or.inl rfl))) (fun _ _ _ _ _=>dg) (fun _ _ _ _ _=>(fu (aa (aB (m8.mono (by decide)) hr rfl (aa (pv 1) (aa (pv 0) (aa hR ae)))) (aa (aB (m8.mono (by decide)) hr rfl (aa (pv 1) (aa (pv 0) (aa hR ae)))) ae))))))),?_⟩
 refine⟨_,rfl,pg,rfl,⟨_,hS⟩,?_⟩
 refine dh (N:=rs.length) (fun i ys H'=>ao H H'/\∃bs:List Addr,ys=bs.map V.ref/\bs.length=i/\∀(j:Nat) a r,bs[j]? = some a->rs[j]? = some r->br K H' a [.int (yL Fo false r.1 r.2:Nat),.int (yL Fo true r.1 r.2:Nat)]) ⟨ao.refl _,[],rfl,rfl,fun j a r e=>nomatch e⟩ ?_ ?_
 ·rintro i ys H1 Ny hi ⟨s1,bs,rfl,bl,hb⟩ ny
  have IW:as[i]? = some (as[i]'(by omega)):=Jd _
  have I0:rs[i]? = some rs[i]:=Jd hi
  have hT:=hT _ _ _ IW I0
  have hv:(as.map V.ref)[i]? = some (.ref (as[i]'(by omega))):=by rw[Ji,IW];rfl
  obtain⟨ba,hw⟩:=ok _ (J2 I0)
  refine⟨⟨_,_,s1.seq hS,hv⟩,J1 (show _<=100 by rw[Jc];omega) (by decide),?_⟩
  rintro x' H2 ⟨rfl,hy⟩
  have e:=hy _ (s1.seq hS)
  rw[hv] at e;cases e
  refine gn ?_
  refine⟨_,rfl,_,rfl,m,_,false,Fo,_,_,rfl,fo.same s1,fr,ba,hw,s1.bU hT,fun H3 s3 =>?_⟩
  have ME:=s1.trans s3
  refine⟨_,rfl,_,rfl,m,_,true,Fo,_,_,rfl,fo.same ME,fr,ba,hw,ME.bU hT,fun H4 s4 =>?_⟩
  refine⟨by show 2<=sizeLine;decide,fun t H5 n5=>ny _ _ ⟨ME.trans (s4.trans n5.same),bs++[t],by rw[Jy];rfl,by rw[Jp,bl];rfl,fun j a r e1 e2 =>?_⟩⟩
  by_cases hj:j<bs.length
  ·rw[Uj hj] at e1
   exact(s3.trans (s4.trans n5.same)).bU (hb j a r e1 e2)
  ·have ej:j=i:=by
    have:=(Jt.mp e1).1
    rw[Jp] at this
    simp only[Jn,Y5] at this
    omega
   subst ej
   rw[Ui (by omega),bl,Nat.sub_self] at e1
   cases e1
   rw[I0] at e2;cases e2
   exact br.of n5.at
 ·rintro ys H1 ⟨s1,bs,rfl,bl,hb⟩
  refine⟨⟨_,s1.seq hS,by rw[Jc,al];exact Je _⟩,fun p hp =>?_⟩
  have s2:=bD hp (.lst (bs.map V.ref))
  refine q p _ (s1.trans s2) ⟨bs,bb.of ay,by rw[Jc];exact bl,fun j a z e1 e2 =>?_⟩
  rw[Ji] at e2
  cases er:rs[j]? with
  | none=>rw[er] at e2;cases e2
  | some r=>rw[er] at e2;cases e2;exact s2.bU (hb j a r e1 er)
theorem b0:aA ["sizes", "fars", "is_far", "places", "at", "near", "far"] ["sizes", "fars"] (aj (top fV)):=⟨rfl,rfl,rfl,by decide +kernel,rfl,by decide +kernel,by decide +kernel⟩
theorem GB (F:bO K "places_with" "places_with" (top fV) f fd)(T:Nm mg):bh P w K mg base eP 1 f fd ["sizes", "fars"] (Kt K):=by
 refine F.ok b0 (fun vs H Q E h =>?_) (fun cG A outer s H vs Q E hr h =>?_)
 ·obtain⟨p,fr,zs,fs,rfl,_⟩:=h
  rfl
 obtain⟨p,fr,zs,fs,rfl,⟨as,hS,al,hT⟩,zl,hF,fl,q⟩:=h
 have hu:=nP hr
 refine⟨_,(af (vJ (i:=2) b0.nd rfl (Or.inl rfl) rfl (cq (Nc:=["at"]) (Fc:=[]) (js:=[])) (G7 K (pv 1)) (bG (i:=0) (n:=1) (by decide)) (fun _ _ _ _ _=>(aD (i:=0) (qv ["at"]) rfl (Or.inl rfl))) (fun _ _ _ _ _=>dg) (fun _ _ _ _ _=>(pv 0)) (fun _ _ _ _ _=>hR))
  (af (aF (i:=3) b0.nd rfl (Or.inl rfl) (fE (aa ah ae)))
  (af (d7 PassesOwn.never rfl (Di K rfl T.n_enumerate (aa (pv 0) ae)) (tupK K 2 rfl (aR (aD (i:=4) b0.nd rfl (Or.inl rfl)) (aR (tupK K 2 rfl (aR (aD (i:=5) b0.nd rfl (Or.inl rfl)) (aR (aD (i:=6) b0.nd rfl (Or.inl rfl)) cu))) cu))) (ag (fN (uy K PySem.F.plainAttrs_list PySem.F.slot_list_append PySem.F.type_list_append jd (pv 3) (aa (aH cE (bp (fI K) (pv 3) (jt fX ah) (fun _ _=>rfl)) (gA (JC (KG hu (pv 4) (pv 2))) (pv 6) (pv 5))) ae)))))
  (ag (av (pv 3)))))),?_⟩
 refine fA (te:=C8 _ _ _ _ _ _ _) (fun v H'=>dS fun(D:Addr) (kvs:List (Key×V))=>v = .ref D/\ao H H'/\H' D=some (.dK kvs)/\∀k:Int,(dU kvs (.inl k)).isSome=decide (k∈fs)) (fun Qn qn =>?_) ?_
 ·refine⟨_,rfl,fr,rfl,⟨_,hF⟩,fun D hD =>?_⟩
  refine⟨fun i m H'=>∃kvs:List (Key×V),m=fs.length-i/\i<=fs.length/\ao H H'/\H' D=some (.dK kvs)/\kvs.length<=i/\∀k:Int,(dU kvs (.inl k)).isSome=decide (k∈fs.take i),⟨_,[],rfl,Um _,bD hD _,ay,Je _,fun k=>rfl⟩,?_⟩
  rintro i m' H4 ⟨kvs,rfl,hi,s4,IP,kl,km⟩
  by_cases hW:i<fs.length
  ·have hv:(fs.map V.int)[i]? = some (.int fs[i]):=by rw[Ji,Jd hW];rfl
   refine .inr ⟨⟨_,_,s4.seq hF,hv⟩,?_⟩
   rintro y H5 ⟨rfl,hy⟩
   have e:=hy _ (s4.seq hF)
   rw[hv] at e;cases e
   refine gn ?_
   dsimp only[NK]
   rw[if_pos rfl]
   have Hr:=lS hW
   generalize fs[i]=x at Hr
   refine⟨_,rfl,kvs,.inl x,IP,rfl,J1 (show kvs.length<=60 by omega) (by decide),fs.length-(i+1),by omega,_,rfl,hW,fun b o e =>?_,ay,Jh DE (by omega),fun k =>?_⟩
   ·rw[ak (aw e hD)];exact s4 b o e
   ·rw[DF,Hr]
    by_cases hk:(Sum.inl k:Key) = .inl x
    ·rw[if_pos hk]
     injection hk with hk
     subst hk
     exact(decide_eq_true (Jw _ Jr)).symm
    ·rw[if_neg hk,km]
     refine decide_eq_decide.mpr ⟨fun h1=>Yq _ h1,fun h1 =>?_⟩
     rcases Ug.mp h1 with h1|h1
     ·exact h1
     ·rw[Jz.mp h1] at hk;exact absurd rfl hk
  ·have ei:i=fs.length:=by omega
   subst ei
   rw[Y3] at km
   exact .inl ⟨⟨_,s4.seq hF,by rw[Jc];exact Je _⟩,qn _ _ ⟨D,kvs,rfl,s4,IP,km⟩⟩
 rintro v H1 ⟨D,kvs,rfl,s1,hD,km⟩
 refine gn ?_
 refine⟨by show 1<=sizeLine;decide,fun l H2 n2=>gn ?_⟩
 have s2:=s1.trans n2.same
 have E6:H l=none:=by
  cases e:H l with
  | none=>rfl
  | some o=>have:=s1 _ _ e;rw[n2.nn] at this;cases this
 refine⟨_,rfl,p,rfl,⟨_,s2.seq hS⟩,?_⟩
 refine lL zs.length (fun i σ H'=>∃x4 x5 x6:Option V,σ=[some (.ref p),some (.ref fr),some (.ref D),some (.ref l),x4,x5,x6]/\ao H1 H'/\H' l=some (.lst (pR (kA zs fs) i))) ⟨_,_,_,rfl,n2.same,n2.at⟩ ?_ ?_
 ·rintro i σ H3 hi ⟨x4,x5,x6,rfl,s3,mU⟩
  have IW:as[i]? = some (as[i]'(by omega)):=Jd _
  have Wg:zs[i]? = some zs[i]:=Jd hi
  have hT:=hT _ _ _ IW Wg
  have hv:(as.map V.ref)[i]? = some (.ref (as[i]'(by omega))):=by rw[Ji,IW];rfl
  have zd:=s1.trans s3
  refine⟨⟨_,_,zd.seq hS,hv⟩,?_⟩
  rintro x' H4 ⟨t4,rfl,t0,ht⟩
  have e4:=ht _ _ (zd.seq hS) hv
  have n4:ao H3 H4:=by rw[e4];exact bD t0 _
  have h4:H4 t4=some (.tup [.int (i:Nat),.ref (as[i]'(by omega))]):=by rw[e4];exact ay
  clear e4 ht
  have s4:=zd.trans n4
  refine⟨_,_,rfl,br.of h4,rfl,_,_,rfl,_,_,rfl,_,_,rfl,s4.bU hT,rfl,_,_,rfl,_,_,rfl,rfl,rfl,?_⟩
  have zL:=n4 _ _ mU
  have IP:=n4 _ _ (s3 _ _ hD)
  have hs:kA zs fs i=if (i:Int)∈fs then zs[i].2 else zs[i].1:=by
   unfold kA
   rw[Uk,Wg];rfl
  have fin:∀(n:Nat),kA zs fs i=n->∀H5,AH H4 l (.lst (pR (kA zs fs) i++[.int ((mf (kA zs fs) i:Nat)+(n:Nat))])) H5->ao H1 H5/\H5 l=some (.lst (pR (kA zs fs) (i+1))):=fun n en H5 c5=>by
   refine⟨fun b o e =>?_,?_⟩
   ·rw[c5.ne (aw e n2.nn)]
    exact n4 _ _ (s3 _ _ e)
   ·rw[c5.at,vF]
    show some (HO.lst (_++[V.int (((mf (kA zs fs) i:Nat):Int)+(n:Nat))]))=some (HO.lst (_++[V.int ((mf (kA zs fs) i+kA zs fs i:Nat):Int)]))
    rw[en,Int.natCast_add]
  refine⟨_,rfl,.inl ⟨rfl,_,bb.of zL⟩,_,rfl,_,rfl,.inl ⟨l,_,-1,_,rfl,rfl,bb.of zL,uQ _ _,?_⟩⟩
  refine⟨_,rfl,_,rfl,D,_,rfl,dz.k (k := .inl (i:Int)) IP,?_⟩
  rw[km]
  by_cases c:(i:Int)∈fs
  ·rw[if_pos c] at hs
   rw[decide_eq_true c]
   refine⟨_,rfl,bK ⟨_,rfl,.inl ⟨_,_,rfl,rfl,l,_,_,rfl,rfl,zL,J1 (show _<=100 by rw[i9];omega) (by decide),fun H5 c5=>⟨_,_,_,rfl,fin _ hs _ c5⟩⟩⟩⟩
  ·rw[if_neg c] at hs
   rw[decide_eq_false c]
   refine⟨_,rfl,bF ⟨_,rfl,.inl ⟨_,_,rfl,rfl,l,_,_,rfl,rfl,zL,J1 (show _<=100 by rw[i9];omega) (by decide),fun H5 c5=>⟨_,_,_,rfl,fin _ hs _ c5⟩⟩⟩⟩
 ·rintro σ H3 ⟨x4,x5,x6,rfl,s3,mU⟩
  refine⟨⟨_,(s1.trans s3).seq hS,by rw[Jc,al];exact Je _⟩,?_⟩
  exact⟨_,rfl,q l H3 (s1.trans s3) E6 mU⟩
theorem tJ:aA ["form", "program", "fars"] ["form", "program", "fars"] (aj (top iI)):=⟨rfl,rfl,rfl,by decide +kernel,rfl,by decide +kernel,by decide +kernel⟩
theorem HN (F:bO K "places_by" "places_by" (top iI) f fd)(T:Nm mg)(vM:Fn P w K mg base 7 "row_sizes" ["form", "program"] (Lg K CF))(pM:Fn P w K mg base 1 "places_with" ["sizes", "fars"] (Kt K)):bh P w K mg base eP 8 f fd ["form", "program", "fars"] (K3 K CF):=by
 refine F.ok tJ (fun vs H Q E h =>?_) (fun cG A outer s H vs Q E hr h =>?_)
 ·obtain⟨m,pg,fr,Fo,rs,fs,rfl,_⟩:=h
  rfl
 obtain⟨m,pg,ff,Fo,rs,fs,rfl,fo,fr,rw',hP,hF,fl,q⟩:=h
 refine⟨_,(ag (av (aB (pM.mono (by decide)) hr rfl (aa (aB (vM.mono (by decide)) hr rfl (aa (pv 0) (aa (pv 1) ae))) (aa (pv 2) ae))))),?_⟩
 refine⟨_,rfl,_,rfl,m,pg,Fo,rs,rfl,fo,fr,rw',hP,fun p H1 s1 hz =>?_⟩
 refine⟨_,rfl,p,ff,_,fs,rfl,hz,by rw[Jc];exact rw'.1,s1.seq hF,fl,fun l H2 s2 l1 l2=>q l H2 (s1.trans s2) ?_ ?_⟩
 ·cases e:H l with
  | none=>rfl
  | some o=>rw[s1 _ _ e] at l1;cases l1
 ·rw[Jc] at l2
  exact l2
end
noncomputable abbrev i7:List Str:=["set", "add", "take", "tell", "ask", "jump", "zero", "stop", "jump", "zero"]
def xQ (K:Ja):Sp:=fun vs H Q _=>wb fun(b c:Addr) (t:Int) (n i:Nat)=>vs=[.ref b,.int (n:Nat),.int (i:Nat)]/\n<=60/\i<=60/\Bx H b c t/\0<=t/\t<90000000 /\
 ∀(p:Addr) (w:Str) (as:List Arg) (H':Hp) (t':Int),hX w as->w∈cN->H' p=some (.tup (.str w::as.map Arg.v))->p≠b->p≠c->Step b c H H' t t' 10->Q (.ref p) H'
theorem ze {r:Int}(h0:0<=r)(h1:r<4):∃c,we (Str.ofString "abcd").cps.toList r=some c/\(⟨#[c]⟩:Str)∈bP:=by
 have:r=0∨r=1∨r=2∨r=3:=by omega
 rcases this with rfl|rfl|rfl|rfl
 ·exact⟨97,by decide +kernel,by decide +kernel⟩
 ·exact⟨98,by decide +kernel,by decide +kernel⟩
 ·exact⟨99,by decide +kernel,by decide +kernel⟩
 ·exact⟨100,by decide +kernel,by decide +kernel⟩
theorem Ht:∀w∈i7,w∈cN:=by decide +kernel
theorem DM:∀w∈cN,w = "set" ∨ w∈(["add", "take"]:List Str)∨w∈(["tell", "ask"]:List Str)∨w = "stop" ∨ w = "jump" ∨ w = "zero":=by decide +kernel
section
variable {P:Program}{w:World}{K:Ja}{mg:Str->Option Value}{base:Heap}{f:Addr}{fd:FuncData}
theorem gH:aA ["_law_state", "_law_many", "_law_number", "_law_word", "_law_one", "_law_other", "_law_at"] ["_law_state", "_law_many", "_law_number"] (aj (top lh)):=⟨rfl,rfl,rfl,by decide +kernel,rfl,by decide +kernel,by decide +kernel⟩
theorem Ha (F:bO K "_law_row" "_law_row" (top lh) f fd)(T:Nm mg)(aG:Fn P w K mg base 1 "_law_take" ["_law_state", "_law_many"] ua):bh P w K mg base eP 2 f fd ["_law_state", "_law_many", "_law_number"] (xQ K):=by
 refine F.ok gH (fun vs H Q E h =>?_) (fun cG A outer s H vs Q E hr h =>?_)
 ·obtain⟨b,c,t,n,i,rfl,_⟩:=h
  rfl
 obtain⟨b,c,t,n,i,rfl,nl,il,bx,t0,t1,q⟩:=h
 have eT:=hr.units
 refine⟨_,(af (aF (i:=3) gH.nd rfl (Or.inl rfl) (bp (fI K) (fE (aa aq (aa aq (aa aq (aa aq (aa aq (aa aq (aa aq (aa aq (aa aq (aa aq ae))))))))))) (aB (aG.mono (by decide)) hr rfl (aa (pv 0) (aa ah ae))) (fun _ _=>rfl)))
  (af (JF (i:=4) (j:=5) rfl gH.nd rfl rfl (by decide) rfl rfl (aa (bp (fI K) aq (aB (aG.mono (by decide)) hr rfl (aa (pv 0) (aa ah ae))) (fun _ _=>rfl)) (aa (bp (fI K) aq (aB (aG.mono (by decide)) hr rfl (aa (pv 0) (aa ah ae))) (fun _ _=>rfl)) ae)) rfl)
  (af (bA (aQ (qj K eT) (pv 3) aq (aV _)) (ag (av (fu (aa (pv 3) (aa (pv 4) (aa (bp (fI K) (fE (aa (aB (aG.mono (by decide)) hr rfl (aa (pv 0) (aa ah ae))) (aa (aB (aG.mono (by decide)) hr rfl (aa (pv 0) (aa ah ae))) ae))) (aB (aG.mono (by decide)) hr rfl (aa (pv 0) (aa ah ae))) (fun _ _=>rfl)) ae)))))) aM)
  (af (bA (aQ (Mn K) (pv 3) (fu (aa aq (aa aq ae))) (by with_unfolding_all rfl)) (ag (av (fu (aa (pv 3) (aa (pv 4) (aa (pv 5) ae)))))) aM)
  (af (bA (aQ (Mn K) (pv 3) (fu (aa aq (aa aq ae))) (by with_unfolding_all rfl)) (ag (av (fu (aa (pv 3) (aa (pv 4) ae))))) aM)
  (af (bA (aQ (qj K eT) (pv 3) aq (aV _)) (ag (av (fu (aa (pv 3) ae)))) aM)
  (af (aF (i:=6) gH.nd rfl (Or.inl rfl) (bp (fI K) (fE (aa (aB (aG.mono (by decide)) hr rfl (aa (pv 0) (aa (aH cE (pv 1) ah) ae))) (aa (ax (qw rfl) rfl T.n_max (by rfl) (aa ah (aa (ax (AQ rfl) rfl T.n_min (by rfl) (aa (pv 1) (aa (aH jz (aH cE (pv 2) (aB (aG.mono (by decide)) hr rfl (aa (pv 0) (aa ah ae)))) ah) ae))) ae))) (aa (pv 1) ae)))) (aB (aG.mono (by decide)) hr rfl (aa (pv 0) (aa ah ae))) (fun _ _=>rfl)))
  (ag (av (gA (aQ (qj K eT) (pv 3) aq (aV _)) (fu (aa (pv 3) (aa (pv 6) ae))) (fu (aa (pv 3) (aa (pv 4) (aa (pv 6) ae)))))))))))))),?_⟩
 refine fA (te:=_) (fun v H'=>∃(wd:Str) (t':Int),v = .str wd/\wd∈cN/\Step b c H H' t t' 1) (fun Qn qn =>?_) ?_
 ·refine⟨by show 10<=sizeLine;decide,fun pk H1 n1=>⟨_,rfl,b,c,t,10,rfl,bx.same n1.same,t0,by omega,by decide,by decide,fun r H2 r0 r1 eK =>?_⟩⟩
  obtain⟨pb,pc⟩:=bx.aO n1.nn
  have KC:=eK.old n1.at pb pc
  have RM:r.toNat<i7.length:=by show r.toNat<10;omega
  have hw:i7[r.toNat]? = some i7[r.toNat]:=Jd RM
  refine .inl ⟨pk,i7.map V.str,r,.str i7[r.toNat],rfl,rfl,bb.of KC,cX r0 (by rw[Ji,hw];rfl),qn _ _ ⟨_,_,rfl,Ht _ (Ub _),((Step.same bx n1.same).trans eK).more (by omega)⟩⟩
 rintro v H1 ⟨wd,t1',rfl,hwd,j1⟩
 have lo1:=j1.le
 have Wz:=j1.ub
 refine gn ?_
 refine⟨_,rfl,b,c,t1',4,rfl,j1.bx,by omega,by omega,by decide,by decide,fun r2 H2 r20 r21 eK =>?_⟩
 obtain⟨c2,e2,hx⟩:=ze r20 r21
 refine .inr (.inr ⟨_,_,c2,rfl,rfl,by decide,e2,?_⟩)
 refine⟨_,rfl,b,c,_,4,rfl,eK.bx,by omega,by omega,by decide,by decide,fun r3 H3 r30 r31 dv =>?_⟩
 obtain⟨c3,e3,hy⟩:=ze r30 r31
 refine .inr (.inr ⟨_,_,c3,rfl,rfl,by decide,e3,_,_,rfl,gn ?_⟩)
 have dv:=j1.trans (eK.trans dv)
 have Qh:=dv.le
 have PX:=dv.ub
 clear j1 eK lo1 Wz r20 r21 r30 r31 e2 e3
 generalize (⟨#[c2]⟩:Str)=x at hx ⊢
 generalize (⟨#[c3]⟩:Str)=y at hy ⊢
 generalize t1'+1+1=t3 at dv Qh PX
 rcases DM wd hwd with rfl|hw|hw|rfl|hw
 ·-- set
  refine⟨_,rfl,.inl ⟨rfl,_,rfl,tm ?_⟩⟩
  refine⟨_,rfl,_,rfl,_,rfl,b,c,_,256,rfl,dv.bx,by omega,by omega,by decide,by decide,fun r4 H4 r40 r41 fR =>?_⟩
  refine⟨_,rfl,b,c,_,4,rfl,fR.bx,by omega,by omega,by decide,by decide,fun r5 H5 r50 r51 cB =>?_⟩
  have cB:=dv.trans (fR.trans cB)
  refine⟨by show 2<=sizeLine;decide,fun l H6 n6 =>?_⟩
  obtain⟨lb,lc⟩:=cB.bx.aO n6.nn
  have gb:=cB.dI n6
  refine⟨_,rfl,b,c,_,2,rfl,gb.bx,by omega,by omega,by decide,by decide,fun r7 H7 r70 r71 jf =>?_⟩
  have P0:=jf.old n6.at lb lc
  have jf:=gb.trans jf
  obtain⟨k,hk,ek⟩:∃k:Nat,k<=255/\([V.int r4,V.int r5]:List V)[r7.toNat]? = some (.int (k:Nat)):=by
   have:r7=0∨r7=1:=by omega
   rcases this with rfl|rfl
   ·exact⟨r4.toNat,by omega,by rw[Yl r40];rfl⟩
   ·exact⟨r5.toNat,by omega,by rw[Yl r50];rfl⟩
  refine .inl ⟨l,_,r7,.int (k:Nat),rfl,rfl,bb.of P0,cX r70 ek,by show 3<=sizeLine;decide,fun p H8 n8 =>?_⟩
  have eG:=jf.dI n8
  refine q p "set" [.sp x,.nu k] _ _ ⟨⟨_,Jr,rfl,rfl⟩,fun a ha =>?_⟩ hwd n8.at (jf.bx.aO n8.nn).1 (jf.bx.aO n8.nn).2 (eG.more (by omega))
  simp only[Jv,Ue,or_false] at ha
  rcases ha with rfl|rfl
  ·exact hx
  ·exact hk
 ·-- add,take
  have ns:(wd == "set")=false:=(by decide +kernel:∀w∈(["add", "take"]:List Str),(w == "set")=false) _ hw
  have nc:(["add", "take"]:List Str).contains wd=true:=(by decide +kernel:∀w∈(["add", "take"]:List Str),(["add", "take"]:List Str).contains w=true) _ hw
  refine⟨_,rfl,.inl ⟨rfl,_,rfl,gu ?_ ns⟩⟩
  refine⟨_,rfl,by show 2<=sizeLine;decide,fun t4 H4 n4=>⟨t4,(["add", "take"]:List Str).map V.str,rfl,.inr (br.of n4.at),rfl,rfl,_,rfl,JA ?_ nc⟩⟩
  refine⟨_,rfl,_,rfl,_,rfl,by show 3<=sizeLine;decide,fun p H8 n8 =>?_⟩
  have fR:=dv.dI n4
  have eG:=fR.dI n8
  refine q p wd [.sp x,.sp y] _ _ ⟨?_,fun a ha =>?_⟩ hwd n8.at (fR.bx.aO n8.nn).1 (fR.bx.aO n8.nn).2 (eG.more (by omega))
  ·simp only[Jv,Ue,or_false] at hw
   rcases hw with rfl|rfl
   ·exact⟨("add",["spot", "spot"]),by simp,rfl,rfl⟩
   ·exact⟨("take",["spot", "spot"]),by simp,rfl,rfl⟩
  ·simp only[Jv,Ue,or_false] at ha
   rcases ha with rfl|rfl
   ·exact hx
   ·exact hy
 ·-- tell,ask
  have ns:(wd == "set")=false:=(by decide +kernel:∀w∈(["tell", "ask"]:List Str),(w == "set")=false) _ hw
  have na:(["add", "take"]:List Str).contains wd=false:=(by decide +kernel:∀w∈(["tell", "ask"]:List Str),(["add", "take"]:List Str).contains w=false) _ hw
  have nc:(["tell", "ask"]:List Str).contains wd=true:=(by decide +kernel:∀w∈(["tell", "ask"]:List Str),(["tell", "ask"]:List Str).contains w=true) _ hw
  refine⟨_,rfl,.inl ⟨rfl,_,rfl,gu ?_ ns⟩⟩
  refine⟨_,rfl,by show 2<=sizeLine;decide,fun t4 H4 n4=>⟨t4,(["add", "take"]:List Str).map V.str,rfl,.inr (br.of n4.at),rfl,rfl,_,rfl,Kw ?_ na⟩⟩
  refine⟨_,rfl,by show 2<=sizeLine;decide,fun t5 H5 n5=>⟨t5,(["tell", "ask"]:List Str).map V.str,rfl,.inr (br.of n5.at),rfl,rfl,_,rfl,JA ?_ nc⟩⟩
  refine⟨_,rfl,_,rfl,by show 2<=sizeLine;decide,fun p H8 n8 =>?_⟩
  have cB:=(dv.dI n4).dI n5
  have eG:=cB.dI n8
  refine q p wd [.sp x] _ _ ⟨?_,fun a ha =>?_⟩ hwd n8.at (cB.bx.aO n8.nn).1 (cB.bx.aO n8.nn).2 (eG.more (by omega))
  ·simp only[Jv,Ue,or_false] at hw
   rcases hw with rfl|rfl
   ·exact⟨("tell",["spot"]),by simp,rfl,rfl⟩
   ·exact⟨("ask",["spot"]),by simp,rfl,rfl⟩
  ·rw[Jz.mp ha]
   exact hx
 ·-- stop
  refine⟨_,rfl,.inl ⟨rfl,_,rfl,gu ?_⟩⟩
  refine⟨_,rfl,by show 2<=sizeLine;decide,fun t4 H4 n4=>⟨t4,(["add", "take"]:List Str).map V.str,rfl,.inr (br.of n4.at),rfl,rfl,_,rfl,Kw ?_⟩⟩
  refine⟨_,rfl,by show 2<=sizeLine;decide,fun t5 H5 n5=>⟨t5,(["tell", "ask"]:List Str).map V.str,rfl,.inr (br.of n5.at),rfl,rfl,_,rfl,Kw ?_⟩⟩
  refine⟨_,rfl,.inl ⟨rfl,_,rfl,tm ?_⟩⟩
  refine⟨_,rfl,by show 1<=sizeLine;decide,fun p H8 n8 =>?_⟩
  have cB:=(dv.dI n4).dI n5
  have eG:=cB.dI n8
  exact q p "stop" [] _ _ ⟨⟨("stop",[]),by simp,rfl,rfl⟩,fun a ha=>nomatch ha⟩ hwd n8.at (cB.bx.aO n8.nn).1 (cB.bx.aO n8.nn).2 (eG.more (by omega))
 ·-- jumps
  have hw:wd∈(["jump", "zero"]:List Str):=by rcases hw with rfl|rfl<;>simp
  have ns:∀w∈(["jump", "zero"]:List Str),(w == "set")=false/\(["add", "take"]:List Str).contains w=false/\(["tell", "ask"]:List Str).contains w=false/\(w == "stop")=false:=by decide +kernel
  obtain⟨k1,k2,k3,k4⟩:=ns _ hw
  refine⟨_,rfl,.inl ⟨rfl,_,rfl,gu ?_ k1⟩⟩
  refine⟨_,rfl,by show 2<=sizeLine;decide,fun t4 H4 n4=>⟨t4,(["add", "take"]:List Str).map V.str,rfl,.inr (br.of n4.at),rfl,rfl,_,rfl,Kw ?_ k2⟩⟩
  refine⟨_,rfl,by show 2<=sizeLine;decide,fun t5 H5 n5=>⟨t5,(["tell", "ask"]:List Str).map V.str,rfl,.inr (br.of n5.at),rfl,rfl,_,rfl,Kw ?_ k3⟩⟩
  refine⟨_,rfl,.inl ⟨rfl,_,rfl,gu ?_ k4⟩⟩
  have cB:=(dv.dI n4).dI n5
  dsimp only[bZ]
  refine fA (te:=_) (fun v H'=>∃(d:Int) (t':Int),v = .int d/\d.natAbs<=1000000/\Step b c H H' t t' 8) (fun Qn qn =>?_) ?_
  ·refine⟨_,rfl,_,rfl,.inl ⟨_,_,rfl,rfl,b,c,_,_,rfl,cB.bx,by omega,by omega,by omega,by omega,fun r6 H6 r60 r61 gb =>?_⟩⟩
   have gb:=cB.trans gb
   refine⟨_,rfl,_,rfl,_,rfl,b,c,_,7,rfl,gb.bx,by omega,by omega,by decide,by decide,fun r7 H7 r70 r71 jf =>?_⟩
   have jf:=gb.trans jf
   refine .inl ⟨_,_,rfl,rfl,_,_,rfl,rfl,_,_,rfl,0,_,rfl,_,rfl,by show 3<=sizeLine;decide,fun l H8 n8 =>?_⟩
   obtain⟨lb,lc⟩:=jf.bx.aO n8.nn
   have eG:=jf.dI n8
   refine⟨_,rfl,b,c,_,3,rfl,eG.bx,by omega,by omega,by decide,by decide,fun r9 H9 r90 r91 kW =>?_⟩
   have Qw:=kW.old n8.at lb lc
   have kW:=eG.trans kW
   generalize hm:(if (if (i:Int)+r7-3<(n:Nat) then (i:Int)+r7-3 else (n:Nat))>0 then (if (i:Int)+r7-3<(n:Nat) then (i:Int)+r7-3 else (n:Nat)) else 0)=d at Qw
   have hd:0<=d/\d<=60:=by
    rw[<-hm]
    have a1:(n:Int)<=60:=by omega
    constructor
    ·split
     ·split<;>omega
     ·split<;>omega
    ·split
     ·split<;>omega
     ·split<;>omega
   obtain⟨d',C2,ed⟩:∃d':Int,d'.natAbs<=1000000/\([V.int r6,V.int d,V.int (n:Nat)]:List V)[r9.toNat]? = some (.int d'):=by
    have:r9=0∨r9=1∨r9=2:=by omega
    rcases this with rfl|rfl|rfl
    ·exact⟨_,by omega,rfl⟩
    ·exact⟨_,by omega,rfl⟩
    ·exact⟨_,by omega,rfl⟩
   exact .inl ⟨l,_,r9,.int d',rfl,rfl,bb.of Qw,cX r90 ed,qn _ _ ⟨_,_,rfl,C2,kW.more (by omega)⟩⟩
  rintro v H6 ⟨d,t6,rfl,hd,gb⟩
  refine gn ?_
  simp only[Jv,Ue,or_false] at hw
  rcases hw with rfl|rfl
  ·refine⟨_,rfl,.inl ⟨rfl,_,rfl,tm ?_⟩⟩
   refine⟨_,rfl,_,rfl,by show 2<=sizeLine;decide,fun p H8 n8 =>?_⟩
   refine q p "jump" [.ne d] _ _ ⟨⟨("jump",["near"]),by simp,rfl,rfl⟩,fun a ha =>?_⟩ hwd n8.at (gb.bx.aO n8.nn).1 (gb.bx.aO n8.nn).2 ((gb.dI n8).more (by omega))
   rw[Jz.mp ha];exact hd
  ·refine⟨_,rfl,.inl ⟨rfl,_,rfl,gu ?_⟩⟩
   refine⟨_,rfl,_,rfl,_,rfl,by show 3<=sizeLine;decide,fun p H8 n8 =>?_⟩
   refine q p "zero" [.sp x,.ne d] _ _ ⟨⟨("zero",["spot", "near"]),by simp,rfl,rfl⟩,fun a ha =>?_⟩ hwd n8.at (gb.bx.aO n8.nn).1 (gb.bx.aO n8.nn).2 ((gb.dI n8).more (by omega))
   simp only[Jv,Ue,or_false] at ha
   rcases ha with rfl|rfl
   ·exact hx
   ·exact hd
end
def wJ (K:Ja):Sp:=fun vs H Q _=>m7 fun(b c:Addr) (t:Int)=>vs=[.ref b,.int 40]/\Bx H b c t/\0<=t/\t<80000000 /\
 ∀(pg:Addr) (rs:List (Str×List Arg)) (H':Hp) (t':Int),LS rs->IJ K (fK H' b c) pg rs->pg≠b->pg≠c->Step b c H H' t t' 500->Q (.ref pg) H'
def wZ (K:Ja):Sp:=fun vs H Q _=>wb fun(p:Addr) (bB:Bool) (d:Int) (w:Str) (as:List Arg)=>vs=[.ref p,.int d,.bl bB]/\hX w as/\w∈cN/\br K H p (.str w::as.map Arg.v) /\
 ∀p' H',ao H H'->br K H' p' (.str (zj bB w as d).1::(zj bB w as d).2.map Arg.v)->Q (.ref p') H'
def xf (K:Ja):Sp:=fun vs H Q _=>Ch fun(lp pg fr:Addr) (F:Fb) (rs:List (Str×List Arg)) (fs:List Int)=>vs=[.ref lp,.ref pg,.ref fr]/\ow K H lp F/\lz F/\LS rs/\IJ K H pg rs/\bb K H fr (fs.map V.int)/\fs.length<=60 /\
 ∀q H',ao H H'->H q=none->H' q=some (.lst (pR (kA (rs.map (uI F)) fs) rs.length))->Q (.ref q) H'
theorem DW (k:Int)(fs:List Int):Dk (.int k) (fs.map V.int)=decide (k∈fs):=by
 unfold Dk
 rw[List.any_map]
 induction fs with
 | nil=>rfl
 | cons x fs ih=>
  rw[Yd,ih]
  show(Dz (V.int x) (V.int k)||decide (k∈fs))=_
  have e:Dz (V.int x) (V.int k)=decide (k=x):=by
   show(x==k)=_
   by_cases c:k=x
   ·rw[c,decide_eq_true rfl];exact beq_self_eq_true x
   ·rw[decide_eq_false c];exact beq_eq_false_iff_ne.mpr (Ne.symm c)
  rw[e,<-Bool.decide_or]
  exact decide_eq_decide.mpr Jv.symm
theorem sZ {α:Type}{xs:List α}{y z: α}{j:Nat}(h:(xs++[y])[j]? = some z):xs[j]? = some z∨(j=xs.length/\z=y):=by
 by_cases hj:j<xs.length
 ·rw[Uj hj] at h
  exact .inl h
 ·have h1:=(Jt.mp h).1
  rw[Jp] at h1
  simp only[Jn,Y5] at h1
  have e:j=xs.length:=by omega
  rw[Ui (by omega),e,Nat.sub_self] at h
  cases h
  exact .inr ⟨e,rfl⟩
section
variable {P:Program}{w:World}{K:Ja}{mg:Str->Option Value}{base:Heap}{f:Addr}{fd:FuncData}
theorem ir:aA ["_law_state", "_law_most", "_law_many"] ["_law_state", "_law_most"] (aj (top fW)):=⟨rfl,rfl,rfl,by decide +kernel,rfl,by decide +kernel,by decide +kernel⟩
theorem FG (F:bO K "_law_program" "_law_program" (top fW) f fd)(T:Nm mg)(aG:Fn P w K mg base 1 "_law_take" ["_law_state", "_law_many"] ua)(BU:Fn P w K mg base 2 "_law_row" ["_law_state", "_law_many", "_law_number"] (xQ K)):bh P w K mg base eP 3 f fd ["_law_state", "_law_most"] (wJ K):=by
 refine F.ok ir (fun vs H Q E h =>?_) (fun cG A outer s H vs Q E hr h =>?_)
 ·obtain⟨b,c,t,rfl,_⟩:=h
  rfl
 obtain⟨b,c,t,rfl,bx,t0,t1,q⟩:=h
 have eT:=hr.units
 refine⟨_,(af (aF (i:=2) ir.nd rfl (Or.inr rfl) (gA (aQ (qj K eT) (aB (aG.mono (by decide)) hr rfl (aa (pv 0) (aa ah ae))) ah (aV _)) (aH cE ah (aB (aG.mono (by decide)) hr rfl (aa (pv 0) (aa (aH jz (pv 1) ah) ae)))) (aB (aG.mono (by decide)) hr rfl (aa (pv 0) (aa ah ae)))))
  (ag (av (dG rfl (cq (Nc:=["_law_number"]) (Fc:=["_law_state", "_law_many"]) (js:=[0,2])) (dX rfl T.n_range (aa (pv 2) ae)) (bG (i:=0) (n:=1) (by decide)) (fun _ _ _ _ _=>(aD (i:=0) (qv ["_law_number", "_law_state", "_law_many"]) rfl (Or.inl rfl))) (fun _ _ _ _ _=>dg) (fun _ _ _ _ _=>(aB (BU.mono (by decide)) hr rfl (aa (pv 1) (aa (pv 2) (aa (pv 0) ae))))))))),?_⟩
 refine fA (te:=_) (fun v H'=>∃(n:Nat) (t':Int),v = .int (n:Nat)/\n<=40/\Step b c H H' t t' 2) (fun Qn qn =>?_) ?_
 ·refine⟨_,rfl,b,c,t,8,rfl,bx,t0,by omega,by decide,by decide,fun r1 H1 r10 r11 j1 =>?_⟩
  have lo1:=j1.le
  refine .inl ⟨rfl,_,rfl,?_⟩
  refine eU (fun _ =>?_) (fun _ =>?_)
  ·refine⟨_,rfl,_,rfl,_,_,rfl,rfl,b,c,_,28,rfl,j1.bx,by omega,by omega,by decide,by decide,fun r2 H2 r20 r21 eK =>?_⟩
   refine .inl ⟨_,_,rfl,rfl,qn _ _ ⟨(13+r2).toNat,_,?_,by omega,(j1.trans eK).more (by omega)⟩⟩
   rw[Yl (by omega)]
  ·refine⟨_,rfl,b,c,_,13,rfl,j1.bx,by omega,by omega,by decide,by decide,fun r2 H2 r20 r21 eK =>?_⟩
   refine qn _ _ ⟨r2.toNat,_,?_,by omega,(j1.trans eK).more (by omega)⟩
   rw[Yl r20]
 rintro v H1 ⟨n,t1',rfl,hn,j1⟩
 refine gn ?_
 refine⟨_,rfl,_,rfl,by omega,by omega,?_⟩
 refine oI (N:=n) (fun i ys H'=>∃(rs:List (Str×List Arg)) (as:List Addr) (t':Int),ys=as.map V.ref/\as.length=i/\rs.length=i/\(∀r∈rs,hX r.1 r.2/\r.1∈cN)/\(∀(j:Nat) a r,as[j]? = some a->rs[j]? = some r->fK H' b c a=some (.tup (.str r.1::r.2.map Arg.v)))/\Step b c H H' t t' (10*i+2)) ⟨[],[],t1',rfl,rfl,rfl,(fun _ h=>nomatch h),(fun _ _ _ h=>nomatch h),j1.more (by omega)⟩ ?_ ?_
 ·rintro i ys H2 Nx hi ⟨rs,as,t2,rfl,al,rl,ok,hT,eK⟩ nx
  have Zl:=eK.ub
  have XI:=eK.le
  refine⟨by show i<((n:Nat):Int).toNat;omega,J1 (show _<=1000 by rw[Jc];omega) (by decide),?_⟩
  rintro x' H3 ⟨rfl,rfl⟩
  rw[Int.zero_add]
  refine gn ⟨_,rfl,_,rfl,_,rfl,b,c,t2,n,i,rfl,by omega,by omega,eK.bx,by omega,by omega,fun p wd ar H4 t4 ba hw hp pb pc fR =>?_⟩
  refine nx _ _ ⟨rs++[(wd,ar)],as++[p],t4,by rw[Jy];rfl,by rw[Jp,al];rfl,by rw[Jp,rl];rfl,fun r hr =>?_,fun j a r e1 e2 =>?_,(eK.trans fR).more (by omega)⟩
  ·rcases Ug.mp hr with hr|hr
   ·exact ok r hr
   ·rw[Jz.mp hr];exact⟨ba,hw⟩
  ·rcases sZ e1 with e1|⟨e1,rfl⟩
   ·rcases sZ e2 with e2|⟨e2,_⟩
    ·exact fR.sm _ _ (hT j a r e1 e2)
    ·have:=(Jt.mp e1).1
     omega
   ·rcases sZ e2 with e2|⟨_,rfl⟩
    ·have:=(Jt.mp e2).1
     omega
    ·rw[bW pb pc];exact hp
 ·rintro ys H2 ⟨rs,as,t2,rfl,al,rl,ok,hT,eK⟩
  refine⟨by show((n:Nat):Int).toNat<=n;omega,fun p H3 n3 =>?_⟩
  obtain⟨pb,pc⟩:=eK.bx.aO n3.nn
  have dv:=eK.dI n3
  have sm:=(Step.same eK.bx n3.same).sm
  refine q p rs H3 t2 ⟨by omega,ok⟩ ⟨as,bb.of (by rw[bW pb pc];exact n3.at),by omega,fun j a r e1 e2=>br.of (sm _ _ (hT j a r e1 e2))⟩ pb pc (dv.more (by omega))
theorem uq:aA ["_law_row_here", "_law_distance", "_law_far"] ["_law_row_here", "_law_distance", "_law_far"] (aj (top jX)):=⟨rfl,rfl,rfl,by decide +kernel,rfl,by decide +kernel,by decide +kernel⟩
theorem GQ (F:bO K "_law_bare" "_law_bare" (top jX) f fd)(T:Nm mg):bh P w K mg base eP 1 f fd ["_law_row_here", "_law_distance", "_law_far"] (wZ K):=by
 refine F.ok uq (fun vs H Q E h =>?_) (fun cG A outer s H vs Q E hr h =>?_)
 ·obtain⟨p,bB,d,wd,as,rfl,_⟩:=h
  rfl
 obtain⟨p,bB,d,wd,as,rfl,ba,hw,hp,q⟩:=h
 refine⟨_,(af (bA (aQ (Ku K) (bp (fI K) (pv 0) ah (fun _ _=>rfl)) (fu (aa aq (aa aq ae))) (by with_unfolding_all rfl)) (ag (av (pv 0))) aM)
  (ag (av (aH (FH K) (aH (FH K) (fu (aa (aH cE (bp (fI K) (fE (aa aq (aa aq ae))) (bf qP rfl T.n_int (by rfl) (aa (pv 2) ae)) (fun _ _=>rfl)) (bp (fI K) (pv 0) ah (fun _ _=>rfl))) ae)) (da (DP K) (pv 0) (cF ah) (cF (jt fX ah)))) (fu (aa (pv 1) ae)))))),?_⟩
 refine⟨_,rfl,.inr (.inl ⟨p,_,0,.str wd,rfl,rfl,hp,cX (Y1 0) rfl,?_⟩)⟩
 refine⟨by show 2<=sizeLine;decide,fun t4 H1 n1=>⟨t4,(["jump", "zero"]:List Str).map V.str,rfl,.inr (br.of n1.at),rfl,rfl,_,rfl,?_⟩⟩
 rw[if_pos rfl,j5]
 have hk:(["jump", "zero"]:List Str).contains wd=decide (wd = "jump" ∨ wd = "zero"):=(by decide +kernel:∀w∈cN,(["jump", "zero"]:List Str).contains w=decide (w = "jump" ∨ w = "zero")) _ hw
 rw[hk]
 unfold zj at q
 have qL:=n1.same.bU hp
 by_cases c:wd = "jump" ∨ wd = "zero"
 ·rw[if_pos c] at q
  rw[decide_eq_true c]
  refine bF ?_
  dsimp only[bZ]
  obtain⟨xs,d0,xl,ea⟩:∃(xs:List Str) (d0:Int),xs.length<=1/\as=xs.map Arg.sp++[.ne d0]:=by
   rcases ba.cls with ⟨rfl,_⟩|⟨_,xs,d0,xl,e⟩|⟨rfl,_⟩|⟨h,_⟩
   ·exact absurd c (by decide +kernel)
   ·refine⟨xs,d0,xl,?_⟩
    rw[e]
    rcases c with rfl|rfl<;>rfl
   ·exact absurd c (by decide +kernel)
   ·exact absurd c ((by decide +kernel:∀w∈uf,¬(w = "jump" ∨ w = "zero")) _ h)
  subst ea
  rw[List.dropLast_concat,Jy,U0] at q
  rw[Jy,U0] at qL
  have qL:br K H1 p (.str wd::(xs.map V.str++[.int d0])):=qL
  refine⟨by show 2<=sizeLine;decide,fun lp H2 n2 =>?_⟩
  have s2:=n1.same.trans n2.same
  refine⟨_,rfl,.inr ⟨bB,rfl,.inl ⟨lp,_,_,.str (if bB=true then Str.ofString "far" else Str.ofString ""),rfl,rfl,bb.of n2.at,by cases bB<;>rfl,?_⟩⟩⟩
  refine⟨_,rfl,.inr (.inl ⟨p,_,0,.str wd,rfl,rfl,n2.same.bU qL,cX (Y1 0) rfl,.inr (.inl ⟨_,_,rfl,rfl,?_,?_⟩)⟩)⟩
  ·rcases c with rfl|rfl<;>cases bB<;>decide
  have ek:(if bB=true then Str.ofString "far" else Str.ofString "")++wd=if bB=true then Str.ofString "far" ++ wd else wd:=by
   cases bB with
   | true=>rfl
   | false=>rcases c with rfl|rfl<;>decide +kernel
  rw[ek]
  generalize hkd:(if bB=true then Str.ofString "far" ++ wd else wd)=kd at q ⊢
  refine⟨by show 1<=sizeLine;decide,fun p1 H3 n3 =>?_⟩
  have s3:=s2.trans n3.same
  refine⟨_,rfl,1,rfl,_,rfl,-1,rfl,p,_,rfl,(n2.same.trans n3.same).bU qL,?_,fun p6 H6 n6 =>?_⟩
  ·rintro⟨z,_⟩
   have:HT.cP (V.str wd::(xs.map V.str++[V.int d0])).length 0 (some 1)=1:=by
    show HT.cP _ 0 (some ((1:Nat):Int))=1
    rw[HT.fM,Jn]
    omega
   rw[this] at z
   exact absurd z (by decide)
  rw[rg] at n6
  have s6:=s3.trans n6.same
  have fin:∀p2 H7,ao H H7->H7 p2=some (.tup (V.str kd::xs.map V.str))->yA (y6 (Dw 1) B8) [some (.ref p),some (.int d),some (.bl bB)] H7 (fun y H8=>HM K (.ref p2) y H8 Q):=fun p2 H7 s7 h2=>by
   refine⟨_,rfl,by show 1<=sizeLine;decide,fun p3 H8 n8=>⟨p2,p3,_,_,rfl,rfl,br.of (n8.same _ _ h2),br.of n8.at,?_,by simp,(fun e=>nomatch e),fun _ p9 H9 n9 =>?_⟩⟩
   ·rw[Jn,Jc]
    show xs.length+1+1<=100000
    omega
   refine q p9 H9 (s7.trans (n8.same.trans n9.same)) ?_
   have e:(V.str kd::xs.map V.str)++[V.int d]=V.str kd::(List.map (Arg.v∘Arg.sp) xs++List.map Arg.v [if bB=true then Arg.fa d else Arg.ne d]):=by
    cases bB<;>rfl
   rw[<-e]
   exact br.of n9.at
  cases xs with
  | nil=>
   refine⟨p1,p6,_,_,rfl,rfl,br.of (n6.same _ _ n3.at),br.of n6.at,by show 1+0<=100000;decide,by simp,fun _=>fin p1 H6 s6 (n6.same _ _ n3.at),fun z=>absurd rfl z⟩
  | cons x ys=>
   refine⟨p1,p6,_,_,rfl,rfl,br.of (n6.same _ _ n3.at),br.of n6.at,?_,by simp,(fun z=>nomatch z),fun _ p7 H7 n7=>fin p7 H7 (s6.trans n7.same) n7.at⟩
   rw[Jc]
   show 1+(x::ys).length<=100000
   omega
 ·rw[if_neg c] at q
  rw[decide_eq_false c]
  exact bK ⟨_,rfl,q p H1 n1.same qL⟩
theorem eA:aA ["_law_parts_here", "_law_program_here", "_law_fars", "_law_places_here", "_law_number", "_law_row_here"] ["_law_parts_here", "_law_program_here", "_law_fars"] (aj (top gF)):=⟨rfl,rfl,rfl,by decide +kernel,rfl,by decide +kernel,by decide +kernel⟩
theorem HX (F:bO K "_law_places" "_law_places" (top gF) f fd)(T:Nm mg)(AK:Fn P w K mg base 2 "_law_put" ["_law_parts_here", "_law_bare_here"] (Mh K))(ya:Fn P w K mg base 1 "_law_bare" ["_law_row_here", "_law_distance", "_law_far"] (wZ K)):bh P w K mg base eP 3 f fd ["_law_parts_here", "_law_program_here", "_law_fars"] (xf K):=by
 refine F.ok eA (fun vs H Q E h =>?_) (fun cG A outer s H vs Q E hr h =>?_)
 ·obtain⟨lp,pg,fr,Fo,rs,fs,rfl,_⟩:=h
  rfl
 obtain⟨lp,pg,ff,Fo,rs,fs,rfl,hP,fr,⟨rl,ok⟩,⟨as,hS,al,hT⟩,hF,fl,q⟩:=h
 refine⟨_,(af (aF (i:=3) eA.nd rfl (Or.inl rfl) (fE (aa ah ae)))
  (af (d7 PassesOwn.never rfl (Di K rfl T.n_enumerate (aa (pv 1) ae)) (tupK K 2 rfl (aR (aD (i:=4) eA.nd rfl (Or.inl rfl)) (aR (aD (i:=5) eA.nd rfl (Or.inl rfl)) cu))) (ag (fN (uy K PySem.F.plainAttrs_list PySem.F.slot_list_append PySem.F.type_list_append jd (pv 3) (aa (aH cE (bp (fI K) (pv 3) (jt fX ah) (fun _ _=>rfl)) (ax (ia K) rfl T.n_len (by rfl) (aa (aB (AK.mono (by decide)) hr rfl (aa (pv 0) (aa (aB (ya.mono (by decide)) hr rfl (aa (pv 5) (aa ah (aa (cQ (Mn K) (pv 4) (pv 2) (by with_unfolding_all rfl)) ae)))) ae))) ae))) ae)))))
  (ag (av (pv 3))))),?_⟩
 refine⟨by show 1<=sizeLine;decide,fun l H2 n2=>gn ?_⟩
 have s2:=n2.same
 refine⟨_,rfl,pg,rfl,⟨_,s2.seq hS⟩,?_⟩
 generalize hs:kA (rs.map (uI Fo)) fs=sf at q
 refine lL rs.length (fun i σ H'=>∃x4 x5:Option V,σ=[some (.ref lp),some (.ref pg),some (.ref ff),some (.ref l),x4,x5]/\ao H H'/\H' l=some (.lst (pR sf i))) ⟨_,_,rfl,s2,n2.at⟩ ?_ ?_
 ·rintro i σ H3 hi ⟨x4,x5,rfl,s3,mU⟩
  have IW:as[i]? = some (as[i]'(by omega)):=Jd _
  have I0:rs[i]? = some rs[i]:=Jd hi
  have hT:=hT _ _ _ IW I0
  have hv:(as.map V.ref)[i]? = some (.ref (as[i]'(by omega))):=by rw[Ji,IW];rfl
  obtain⟨ba,hw⟩:=ok _ (J2 I0)
  refine⟨⟨_,_,s3.seq hS,hv⟩,?_⟩
  rintro x' H4 ⟨t4,rfl,t0,ht⟩
  have e4:=ht _ _ (s3.seq hS) hv
  have n4:ao H3 H4:=by rw[e4];exact bD t0 _
  have h4:H4 t4=some (.tup [.int (i:Nat),.ref (as[i]'(by omega))]):=by rw[e4];exact ay
  clear e4 ht
  have s4:=s3.trans n4
  refine⟨_,_,rfl,br.of h4,rfl,_,_,rfl,_,_,rfl,rfl,?_⟩
  have zL:=n4 _ _ mU
  have e0:sf i=yL Fo (decide ((i:Int)∈fs)) rs[i].1 rs[i].2:=by
   rw[<-hs]
   unfold kA
   rw[Uk,Ji,I0]
   by_cases c:(i:Int)∈fs
   ·rw[if_pos c,decide_eq_true c];rfl
   ·rw[if_neg c,decide_eq_false c];rfl
  refine⟨_,rfl,.inl ⟨rfl,_,bb.of zL⟩,_,rfl,_,rfl,.inl ⟨l,_,-1,_,rfl,rfl,bb.of zL,uQ _ _,?_⟩⟩
  refine⟨_,rfl,_,rfl,_,rfl,_,rfl,ff,fs.map V.int,rfl,.inl (s4.seq hF),rfl,?_,?_⟩
  ·rw[Y2]
   intro x hx
   obtain⟨y,_,rfl⟩:=Uh.mp hx
   rfl
  have Zx:Dk (.int (i:Nat)) (fs.map V.int)=decide ((i:Int)∈fs):=DW _ _
  rw[if_neg Jl,Zx]
  obtain⟨b2,x,ex⟩:=C5 (F:=Fo) (decide ((i:Int)∈fs)) ba hw
  refine⟨_,_,0,_,_,rfl,ba,hw,s4.bU hT,fun p5 H5 s5 h5 =>?_⟩
  refine⟨lp,p5,Fo,_,_,rfl,hP.same (s4.trans s5),fr,b2,h5,fun H6 s6 =>?_⟩
  rw[ex]
  have el:sf i=x.length:=by
   rw[e0]
   unfold yL
   rw[ex];rfl
  have Wd:=s5.trans s6
  refine⟨_,_,rfl,⟨Jh (rR fr b2 ex) (by decide),rfl⟩,.inl ⟨_,_,rfl,rfl,?_⟩⟩
  refine⟨l,_,_,rfl,rfl,Wd _ _ zL,J1 (show _<=100 by rw[i9];omega) (by decide),fun H7 c7=>⟨_,_,rfl,fun b o e =>?_,?_⟩⟩
  ·rw[c7.ne (aw e n2.nn)]
   exact Wd _ _ (s4 _ _ e)
  ·rw[c7.at,vF]
   show some (HO.lst (_++[V.int (((mf sf i:Nat):Int)+(x.length:Nat))]))=some (HO.lst (_++[V.int ((mf sf i+sf i:Nat):Int)]))
   rw[el,Int.natCast_add]
 ·rintro σ H3 ⟨x4,x5,rfl,s3,mU⟩
  refine⟨⟨_,s3.seq hS,by rw[Jc,al];exact Je _⟩,?_⟩
  exact⟨_,rfl,q l H3 s3 n2.nn mU⟩
end
noncomputable def CD:Value->Str
 | .str x _=>x
 | _ => "?"
theorem qo {Pm:Params}{P:Program}{w:World}:∀{l:List DictEntry},PySem.W.KeysLit Pm l->Pairs (PySem.strKind P w) l (l.map fun e=>(CD e.key,e.val))
 | [],_ =>.nil
 | e::l,h=>by
  obtain⟨⟨x,t,e1,_⟩,h2⟩:=h
  refine .cons ?_ rfl (qo h2)
  show(PySem.strKind P w).is (CD e.key) e.key=true
  rw[e1]
  exact PySem.strKind_is P w x t
theorem v8 {l:List DictEntry}:(l.map fun e=>(CD e.key,e.val)).map (·.1)=l.map fun e=>CD e.key:=by rw[U0];rfl
theorem lz.gh {F:Fb}(h:lz F):Z.gh F.b1 F.near F.bB=false:=by
 obtain⟨h1,h2,h3⟩:=xU h.g.why
 have w:=h.g.why
 unfold jW at w
 rw[if_neg (by rw[h1];decide),if_neg (by rw[h2];decide),if_neg (by rw[h3];decide)] at w
 unfold AD at w
 have hn:pq (.int (F.near:Nat))=true:=by
  cases e:pq (.int (F.near:Nat)) with
  | true=>rfl
  | false=>rw[if_pos e] at w;cases w
 rw[if_neg (by rw[hn];decide)] at w
 have hf:uT (aI F.b1) (.int (F.near:Nat)) (.int (F.bB:Nat))=true:=by
  cases e:uT (aI F.b1) (.int (F.near:Nat)) (.int (F.bB:Nat)) with
  | true=>rfl
  | false=>rw[if_pos e] at w;cases w
 have hf:(decide ((F.near:Int)<F.bB)&&(decide ((F.bB:Int)<=16) && !Z.gh (cy (fH (aI F.b1))) F.near F.bB))=true:=hf
 rw[Jx,Jx] at hf
 have h:=hf.2.2
 rw[show cy (fH (aI F.b1))=F.b1 from iO F.b1] at h
 cases e:Z.gh F.b1 F.near F.bB with
 | true=>rw[e] at h;cases h
 | false=>rfl
theorem lz.R3 {F:Fb}(h:lz F){w:Str}(hw:w = "jump" ∨ w = "zero"):(aX F.b1 w).length+F.near<=(aX F.b1 (Str.ofString "far" ++ w)).length+F.bB:=by
 have e:=h.gh
 unfold Z.gh at e
 rw[List.any_eq_false] at e
 rcases hw with rfl|rfl
 ·have:=e "jump" (by simp)
  have:=of_decide_eq_false (Uw.mpr this)
  have e1:Str.ofString ("far" ++ "jump")=Str.ofString "far" ++ Str.ofString "jump":=by decide +kernel
  rw[e1] at this
  show(aX F.b1 (Str.ofString "jump")).length+F.near<=(aX F.b1 (Str.ofString "far" ++ Str.ofString "jump")).length+F.bB
  omega
 ·have:=e "zero" (by simp)
  have:=of_decide_eq_false (Uw.mpr this)
  have e1:Str.ofString ("far" ++ "zero")=Str.ofString "far" ++ Str.ofString "zero":=by decide +kernel
  rw[e1] at this
  show(aX F.b1 (Str.ofString "zero")).length+F.near<=(aX F.b1 (Str.ofString "far" ++ Str.ofString "zero")).length+F.bB
  omega
theorem zc {k:Nat}:∃x,kn 0 k=some x/\x.length=k:=by
 unfold kn
 rw[V4]
 exact⟨_,rfl,cL _ _⟩
theorem zE {F:Fb}{w:Str}(xs:List Str){a:Arg}{y:Str}(e:dQ F a=some y):((eM F w (xs.map Arg.sp++[a])).getD Str.empty).length=(aX F.b1 w).length+((xs.map (aX F.b2)).map fun x=>x.length).sum+y.length:=by
 unfold eM
 rw[mN]
 have:cc F [a]=some [y]:=by
  show(match dQ F a with|none=>none|some x=>(some []).map (x :: ·))=_
  rw[e];rfl
 rw[this]
 show(Txt.join "" (aX F.b1 w::(xs.map (aX F.b2)++[y]))).length=_
 rw[kz,J0,Ye,Jy,List.sum_append]
 show _+(_+(y.length+0))=_
 omega
theorem MH {F:Fb}(fr:lz F){w:Str}{as:List Arg}(ba:hX w as)(hw:w∈cN):yL F false w as<=yL F true w as:=by
 unfold yL zj
 by_cases c:w = "jump" ∨ w = "zero"
 ·rw[if_pos c,if_pos c]
  obtain⟨xs,d0,xl,ea⟩:∃(xs:List Str) (d0:Int),xs.length<=1/\as=xs.map Arg.sp++[.ne d0]:=by
   rcases ba.cls with ⟨rfl,_⟩|⟨_,xs,d0,xl,e⟩|⟨rfl,_⟩|⟨h,_⟩
   ·exact absurd c (by decide +kernel)
   ·refine⟨xs,d0,xl,?_⟩
    rw[e]
    rcases c with rfl|rfl<;>rfl
   ·exact absurd c (by decide +kernel)
   ·exact absurd c ((by decide +kernel:∀w∈uf,¬(w = "jump" ∨ w = "zero")) _ h)
  subst ea
  rw[List.dropLast_concat]
  obtain⟨y,ey,yl⟩:=zc (k:=F.near)
  obtain⟨z,ez,zl⟩:=zc (k:=F.bB)
  have e1:=zE (F:=F) (w:=w) xs (a := .ne 0) (show dQ F (.ne 0)=some y from ey)
  have e2:=zE (F:=F) (w:=Str.ofString "far" ++ w) xs (a := .fa 0) (show dQ F (.fa 0)=some z from ez)
  show((eM F w (xs.map Arg.sp++[.ne 0])).getD Str.empty).length<=((eM F (Str.ofString "far" ++ w) (xs.map Arg.sp++[.fa 0])).getD Str.empty).length
  rw[e1,e2]
  have:=fr.R3 c
  omega
 ·rw[if_neg c,if_neg c]
  exact Je _
theorem HQ {F:Fb}(fr:lz F){w:Str}{as:List Arg}(bB:Bool)(ba:hX w as)(hw:w∈cN):yL F bB w as<=100:=by
 obtain⟨b2,x,ex⟩:=C5 (F:=F) bB ba hw
 unfold yL
 rw[ex]
 exact rR fr b2 ex
theorem yy {F:Fb}{rs:List (Str×List Arg)}{fs:List Int}{i:Nat}{r:Str×List Arg}(e:rs[i]? = some r):kA (rs.map (uI F)) fs i=yL F (decide ((i:Int)∈fs)) r.1 r.2:=by
 unfold kA
 rw[Uk,Ji,e]
 by_cases c:(i:Int)∈fs
 ·rw[if_pos c,decide_eq_true c];rfl
 ·rw[if_neg c,decide_eq_false c];rfl
theorem vp {s1 s2:Nat->Nat}{n:Nat}(h:∀i,i<n->s1 i<=s2 i):∀j,j<=n->mf s1 j<=mf s2 j
 | 0,_=>Je _
 | j+1,hj=>Nat.add_le_add (vp h j (by omega)) (h j (by omega))
theorem tZ {s:Nat->Nat}{n m:Nat}(h:∀i,i<n->s i<=m):∀j,j<=n->mf s j<=m*j
 | 0,_=>Je _
 | j+1,hj=>by
  have:=tZ h j (by omega)
  have:=h j (by omega)
  show mf s j+s j<=m*(j+1)
  rw[Nat.mul_succ]
  omega
theorem Hf {F:Fb}(fr:lz F){rs:List (Str×List Arg)}(ok:LS rs){f1 f2:List Int}(h:∀x∈f1,x∈f2):∀j,j<=rs.length->mf (kA (rs.map (uI F)) f1) j<=mf (kA (rs.map (uI F)) f2) j:=
 vp fun i hi=>by
  have e:=Jd hi
  obtain⟨ba,hw⟩:=ok.2 _ (Ub hi)
  rw[yy e,yy e]
  by_cases c1:(i:Int)∈f1
  ·rw[decide_eq_true c1,decide_eq_true (h _ c1)];exact Je _
  ·rw[decide_eq_false c1]
   by_cases c2:(i:Int)∈f2
   ·rw[decide_eq_true c2];exact MH fr ba hw
   ·rw[decide_eq_false c2];exact Je _
noncomputable def HW:Arg->PyData
 | .sp x =>.str x | .nu n =>.int (n:Nat) | .ma n =>.int (n:Nat) | .ne d =>.int d | .fa d =>.int d
noncomputable def Ei (r:Str×List Arg):PyData := .tuple (.str r.1::r.2.map HW)
noncomputable def Af (rs:List (Str×List Arg)):PyData := .list (rs.map Ei)
noncomputable def ql (fs:List Int):PyData := .list (fs.map .int)
noncomputable def Mj (s:Nat->Nat)(n:Nat):PyData := .list ((Uy (n+1)).map fun j =>.int (mf s j:Nat))
theorem eY {K:Ja}{H:Hp}:∀as:List Arg,aN K H (as.map HW) (as.map Arg.v)
 | []=>mr
 | .sp x::as=>bL wA (eY as)
 | .nu n::as=>bL wI (eY as)
 | .ma n::as=>bL wI (eY as)
 | .ne n::as=>bL wI (eY as)
 | .fa n::as=>bL wI (eY as)
theorem sQ {K:Ja}{H:Hp}{α:Type}(f: α->Int):∀xs:List α,aN K H (xs.map fun x =>.int (f x)) (xs.map fun x =>.int (f x))
 | []=>mr
 | _::xs=>bL wI (sQ f xs)
theorem GL {K:Ja}{H:Hp}{a:Addr}{r:Str×List Arg}(h:br K H a (.str r.1::r.2.map Arg.v)):Den K H (Ei r) (.ref a):=by
 unfold Ei Den
 exact⟨a,_,rfl,h,bL wA (eY _)⟩
theorem zJ {K:Ja}{H:Hp}{pg:Addr}{rs:List (Str×List Arg)}(h:IJ K H pg rs):Den K H (Af rs) (.ref pg):=by
 obtain⟨as,h1,h2,h3⟩:=h
 refine Den.list h1 (aN.of_get (by rw[Jc,Jc,h2]) fun j d v hd hv =>?_)
 rw[Ji] at hd hv
 cases e1:rs[j]? with
 | none=>rw[e1] at hd;cases hd
 | some r=>
  cases e2:as[j]? with
  | none=>rw[e2] at hv;cases hv
  | some a=>
   rw[e1] at hd;rw[e2] at hv
   cases hd;cases hv
   exact GL (h3 j a r e2 e1)
theorem uE {K:Ja}{H:Hp}{p:Addr}{fs:List Int}(h:bb K H p (fs.map V.int)):Den K H (ql fs) (.ref p):=Den.list h (sQ (fun x=>x) fs)
theorem tE {K:Ja}{H:Hp}{p:Addr}{s:Nat->Nat}{n:Nat}(h:H p=some (.lst (pR s n))):Den K H (Mj s n) (.ref p):=Den.list (bb.of h) (sQ (fun j=>((mf s j:Nat):Int)) _)
theorem o6 {w dp:Nat}:∀{ds:List PyData},(∀d∈ds,Gd w dp d)->Gs ((w+1)*ds.length) dp ds
 | [],_=>Gs.nil.mono (Um _) (Je _)
 | d::ds,h=>by
  refine(Gs.cons (h d Jr) (o6 fun x hx=>h x (Jo _ hx))).mono ?_ (Je _)
  rw[Jn,Nat.mul_succ]
  omega
theorem jc {i:Int}(h:i.natAbs<=1000000):i.natAbs<10^40:=J1 h (by decide)
theorem K2 {a:Arg}(h:a.ok):Gd 201 0 (HW a):=by
 cases a with
 | sp x=>
  have hx:∀x∈bP,jo x=true/\x.length<=201:=by decide +kernel
  exact Gd.str (hx x h).1 (hx x h).2
 | nu n=>exact Gd.int (jc (show n<=1000000 from Jh h (by decide))) (Je _)
 | ma n=>exact Gd.int (jc (show n<=1000000 from Jh h (by decide))) (Je _)
 | ne n=>exact Gd.int (jc h) (Je _)
 | fa n=>exact Gd.int (jc h) (Je _)
theorem JJ {r:Str×List Arg}(ba:hX r.1 r.2)(hw:r.1∈cN):Gd 620 1 (Ei r):=by
 have hx:∀x∈cN,jo x=true/\x.length<=201:=by decide +kernel
 obtain⟨q,hq,_,ek⟩:=ba.pt
 have al:=(gG q hq).2
 rw[<-ek,Jc] at al
 have g:=o6 (w:=201) (dp:=0) (ds := .str r.1::r.2.map HW) fun d hd=>by
  rcases Jv.mp hd with rfl|hd
  ·exact Gd.str (hx _ hw).1 (hx _ hw).2
  ·obtain⟨a,ha,rfl⟩:=Uh.mp hd
   exact K2 (ba.ok a ha)
 refine g.tuple.mono ?_ (Je _)
 rw[Jn,Jc]
 have:(201+1)*(r.2.length+1)<=(201+1)*3:=Nat.mul_le_mul_left _ (by omega)
 omega
theorem Km {rs:List (Str×List Arg)}(ok:LS rs):Gd 40000 2 (Af rs):=by
 have g:=o6 (w:=620) (dp:=1) (ds:=rs.map Ei) fun d hd=>by
  obtain⟨r,hr,rfl⟩:=Uh.mp hd
  exact JJ (ok.2 r hr).1 (ok.2 r hr).2
 refine g.list.mono ?_ (Je _)
 rw[Jc]
 have:=Nat.mul_le_mul_left (620+1) ok.1
 omega
theorem Gf {fs:List Int}(h:∀x∈fs,x.natAbs<=1000000)(hl:fs.length<=60):Gd 40000 2 (ql fs):=by
 have g:=o6 (w:=201) (dp:=1) (ds:=fs.map .int) fun d hd=>by
  obtain⟨x,hx,rfl⟩:=Uh.mp hd
  exact Gd.int (jc (h x hx)) (Je _)
 refine g.list.mono ?_ (Je _)
 rw[Jc]
 have:=Nat.mul_le_mul_left (201+1) hl
 omega
theorem OB {s:Nat->Nat}{n:Nat}(h:∀i,i<n->s i<=100)(hn:n<=60):Gd 40000 2 (Mj s n):=by
 have g:=o6 (w:=201) (dp:=1) (ds:=(Uy (n+1)).map fun j =>.int (mf s j:Nat)) fun d hd=>by
  obtain⟨j,hj,rfl⟩:=Uh.mp hd
  have hj:=List.mem_range.mp hj
  have:=tZ h j (by omega)
  exact Gd.int (jc (show mf s j<=1000000 by omega)) (Je _)
 refine g.list.mono ?_ (Je _)
 rw[Jc,List.length_range]
 have:=Nat.mul_le_mul_left (201+1) (show n+1<=61 by omega)
 omega
theorem GG {rs:List (Str×List Arg)}(ok:LS rs){fs:List Int}(h:∀x∈fs,x.natAbs<=1000000)(hl:fs.length<=60):(PyData.list [Af rs,ql fs]).showable=true/\(PyData.list [Af rs,ql fs]).depth<=40/\(PyData.list [Af rs,ql fs]).shown.length<=sizeLine:=by
 have g:=(Gs.cons (Km ok) (Gs.one (Gf h hl))).list
 obtain⟨z1,z2,z3⟩:=nL _ g.pz
 refine⟨z2,Jh g.dp (by decide),?_⟩
 have:=g.wt
 exact Jh (show _<=16000000 by omega) (by decide)
def yZ (K:Ja):Sp:=fun vs H Q _=>∃(a:Addr) (ns:List Int),vs=[.ref a]/\bb K H a (ns.map V.int)/\ns.length<=63/\∀H',Q (.bl true) H'
theorem Bq {K:Ja}{H:Hp}{nE rS tG:List (Str×Str)}{near bB:Int}{v1 v2 v3 v4 v5:V}(g:Good3 nE rS tG near bB)(h:aN K H [aI nE,aI rS,aI tG,.int near,.int bB] [v1,v2,v3,v4,v5]):vb K H v1 v2 v3 v4 v5 (aI nE) (aI rS) (aI tG) (.int near) (.int bB):=by
 have at':∀(i:Nat) d v,([aI nE,aI rS,aI tG,.int near,.int bB]:List PyData)[i]? = some d->([v1,v2,v3,v4,v5]:List V)[i]? = some v->Den K H d v:=fun i d v e1 e2=>jD h e1 e2
 have ft:∀{bk:List (Str×Str)},(∀q∈bk,jo q.1=true/\jo q.2=true/\q.1.length<=8/\q.2.length<=11)->bk.length<=11->II (aI bk):=fun{bk} sh hl=>
  II.of (w:=243) (dp:=2) (((yD (w:=22) fun q hq=>by obtain⟨a,b,c,d⟩:=sh q hq;exact⟨a,b,by omega⟩).mono (by omega) (Je _)).list) (by decide) (by decide) (by show(bk.map fG).length<=60;rw[Jc];omega)
 have h1:=g.l1
 have h2:=g.l2
 have h3:=g.l3
 exact⟨at' 0 _ _ rfl rfl,at' 1 _ _ rfl rfl,at' 2 _ _ rfl rfl,at' 3 _ _ rfl rfl,at' 4 _ _ rfl rfl,ft (fun q hq=>g.sz q (.inl hq)) (by omega),ft (fun q hq=>g.sz q (.inr (.inl hq))) (by omega),ft (fun q hq=>g.sz q (.inr (.inr hq))) (by omega)⟩
theorem yw (bk:List (Str×Str)):Mq (Ic (aI bk))=true:=by
 show xg (bk.map fG)=true
 induction bk with
 | nil=>rfl
 | cons q bk ih=>
  show(Mq (fG q)&&xg (bk.map fG))=true
  rw[ih]
  rfl
theorem B7 {K:Ja}{CF:Addr}{H:Hp}{b c m:Addr}{t:Int}{F:Fb}(bx:Bx H b c t)(mb:m≠b)(mc:m≠c)(h:kG K CF H m F):kG K CF (fK H b c) m F:=by
 obtain⟨dx,w1,w2,w3,w4,w5,e,h1,h2,h3,h4,h5⟩:=h
 exact⟨dx,w1,w2,w3,w4,w5,by rw[bW mb mc];exact e,Den.hide bx (yw F.b1) h1,Den.hide bx (yw F.b2) h2,Den.hide bx (yw F.b3) h3,Den.hide bx rfl h4,Den.hide bx rfl h5⟩
theorem C0 {H H':Hp}{a:Addr}(s:ao H H')(h:H' a=none):H a=none:=by
 cases e:H a with
 | none=>rfl
 | some o=>rw[s _ _ e] at h;cases h
abbrev Qr (fs:List Int):Prop:=fs.length<=60/\∀x∈fs,x.natAbs<=1000000
section
variable {P:Program}{w:World}{K:Ja}{mg:Str->Option Value}{base:Heap}{f:Addr}{fd:FuncData}{C CF:Addr}
theorem dq:aA ["_law_script", "_law_state", "_law_turn", "_law_parts_here", "_law_form_here", "_law_more", "_law_program_here", "_law_jumps", "_law_some", "_law_ahead", "_law_fars", "_law_kept", "_law_due", "_law_found"] ["_law_script"] (aj (top gr)):=⟨rfl,rfl,rfl,by decide +kernel,rfl,by decide +kernel,by decide +kernel⟩
theorem LJ (F:bO K "law" "law" (top gr) f fd)(T:Nm mg)(uz:Fn P w K mg base 1 "_law_begin" ["_law_script"] (tD K))(aG:Fn P w K mg base 1 "_law_take" ["_law_state", "_law_many"] ua)(uW:Fn P w K mg base 4 "_law_parts" ["_law_state"] (EH K))(yp:Fn P w K mg base 9 "_law_form" ["_law_parts_here"] (E2 K CF))(pQ:Fn P w K mg base 3 "_law_program" ["_law_state", "_law_most"] (wJ K))(tx:Fn P w K mg base 3 "_law_places" ["_law_parts_here", "_law_program_here", "_law_fars"] (xf K))(lX:Fn P w K mg base 8 "places_by" ["form", "program", "fars"] (K3 K CF))(gC:Fn P w K mg base 8 "_law_same" ["_law_found", "_law_due"] (sT K 8)):
  bh P w K mg base eP 10 f fd ["_law_script"] (yZ K):=by
 refine F.ok dq (fun vs H Q E h =>?_) (fun cG A outer s H vs Q E hr h =>?_)
 ·obtain⟨a,ns,rfl,_⟩:=h
  rfl
 obtain⟨a,ns,rfl,hS,hlen,q⟩:=h
 have eT:=hr.units
 refine⟨_,(af (aF (i:=1) dq.nd rfl (Or.inr rfl) (aB (uz.mono (by decide)) hr rfl (aa (pv 0) ae)))
  (af (d7 PassesOwn.never rfl (dX rfl T.n_range (aa ah ae)) (aD (i:=2) dq.nd rfl (Or.inl rfl)) (af (aF (i:=3) dq.nd rfl (Or.inl rfl) (aB (uW.mono (by decide)) hr rfl (aa (pv 1) ae)))
  (af (aF (i:=4) dq.nd rfl (Or.inl rfl) (aB (yp.mono (by decide)) hr rfl (aa (pv 3) ae)))
  (ag (d7 PassesOwn.never rfl (dX rfl T.n_range (aa ah ae)) (aD (i:=5) dq.nd rfl (Or.inl rfl)) (af (aF (i:=6) dq.nd rfl (Or.inl rfl) (aB (pQ.mono (by decide)) hr rfl (aa (pv 1) (aa ah ae))))
  (af (gE (i:=7) dq.nd rfl (Or.inl rfl) rfl (cq (Nc:=["_law_number", "_law_row_here"]) (Fc:=[]) (js:=[])) (Di K rfl T.n_enumerate (aa (pv 6) ae)) (nQ (df (bG (i:=0) (n:=2) (by decide)) (df (bG (i:=1) (n:=2) (by decide)) ky cn et) cn (iz cn et))) (fun _ _ _ _ _=>(tupK K 2 rfl (aR (aD (i:=0) (qv ["_law_number", "_law_row_here"]) rfl (Or.inl rfl)) (aR (aD (i:=1) (qv ["_law_number", "_law_row_here"]) rfl (Or.inl rfl)) cu)))) (fun _ _ _ _ _=>(tP (aQ (Mn K) (bp (fI K) (pv 1) ah (fun _ _=>rfl)) (fu (aa aq (aa aq ae))) (by with_unfolding_all rfl)))) (fun _ _ _ _ _=>(pv 0)))
  (af (gE (i:=8) dq.nd rfl (Or.inl rfl) rfl (cq (Nc:=["_law_number"]) (Fc:=["_law_state"]) (js:=[1])) (G7 K (pv 7)) (bG (i:=0) (n:=1) (by decide)) (fun _ _ _ _ _=>(aD (i:=0) (qv ["_law_number", "_law_state"]) rfl (Or.inl rfl))) (fun _ _ _ _ _=>(tP (aQ (qj K eT) (aB (aG.mono (by decide)) hr rfl (aa (pv 1) (aa ah ae))) ah (aV _)))) (fun _ _ _ _ _=>(pv 0)))
  (af (aF (i:=9) dq.nd rfl (Or.inl rfl) fz)
  (ag (d7 PassesOwn.never rfl (kK K (fu (aa (fE ae) (aa (pv 8) (aa (pv 7) ae))))) (aD (i:=10) dq.nd rfl (Or.inl rfl)) (af (aF (i:=11) dq.nd rfl (Or.inl rfl) (bf (Oh K hr.gd eT) rfl T.n_str (by rfl) (aa (fE (aa (pv 6) (aa (pv 10) ae))) ae)))
  (af (aF (i:=12) dq.nd rfl (Or.inl rfl) (aB (tx.mono (by decide)) hr rfl (aa (pv 3) (aa (pv 6) (aa (pv 10) ae)))))
  (af (aF (i:=13) dq.nd rfl (Or.inl rfl) (aB (lX.mono (by decide)) hr rfl (aa (pv 4) (aa (pv 6) (aa (pv 10) ae)))))
  (af (bA (PW.pt (lW (dN (cf (aB (gC.mono (by decide)) hr rfl (aa (pv 13) (aa (pv 12) ae))))) (jV (aQ (JV K eT) (bf (Oh K hr.gd eT) rfl T.n_str (by rfl) (aa (fE (aa (pv 6) (aa (pv 10) ae))) ae)) (pv 11) (aV _))))) (ag (av hR)) aM)
  (af (fN (uy K PySem.F.plainAttrs_list PySem.F.slot_list_append PySem.F.type_list_append jd (pv 13) (aa ah ae)))
  (af (fN (OV K PySem.F.plainAttrs_list PySem.F.slot_list_reverse PySem.F.type_list_reverse DV (pv 13)))
  (af (bA (dN (cf (aB (gC.mono (by decide)) hr rfl (aa (aB (lX.mono (by decide)) hr rfl (aa (pv 4) (aa (pv 6) (aa (pv 10) ae)))) (aa (pv 12) ae))))) (ag (av hR)) aM)
  (af (bA (PW.pt (LK (aQ si (pv 9) fz (aV _)) (FV (dN (cf (ax (JI K rfl) rfl T.n_all (by rfl) (aa (dG rfl (cq (Nc:=["_law_one", "_law_other"]) (Fc:=[]) (js:=[])) (rN K rfl T.n_zip (aa (pv 9) (aa (pv 12) ae))) (nQ (df (bG (i:=0) (n:=2) (by decide)) (df (bG (i:=1) (n:=2) (by decide)) ky cn et) cn (iz cn et))) (fun _ _ _ _ _=>(tupK K 2 rfl (aR (aD (i:=0) (qv ["_law_one", "_law_other"]) rfl (Or.inl rfl)) (aR (aD (i:=1) (qv ["_law_one", "_law_other"]) rfl (Or.inl rfl)) cu)))) (fun _ _ _ _ _=>dg) (fun _ _ _ _ _=>(cQ my (pv 0) (pv 1) (aV _)))) ae))))))) (ag (av hR)) aM)
  (ag (aF (i:=9) dq.nd rfl (Or.inl rfl) (pv 12))))))))))))))))))))))
  (ag (av hR)))),?_⟩
 refine⟨_,rfl,a,ns,rfl,hS,hlen,fun b c H1 wo hb hc sm1 =>?_⟩
 refine gn ?_
 dsimp only
 refine⟨2,rfl,by decide,by decide,?_⟩
 refine eZ (lo:=0) (n:=2) (fun i σ H'=>∃(t':Int) (x2 x3 x4 x5 x6 x7 x8 x9 BS B1 AA AO:Option V),σ=[some (.ref a),some (.ref b),x2,x3,x4,x5,x6,x7,x8,x9,BS,B1,AA,AO]/\Step b c H1 H' 0 t' (10000*i)) ⟨0,_,_,_,_,_,_,_,_,_,_,_,_,rfl,(Step.refl wo).more (by omega)⟩ ?_ ?_
 ·rintro i σ H2 hi ⟨t2,x2,x3,x4,x5,x6,x7,x8,x9,BS,B1,AA,AO,rfl,eK⟩
  have Zl:=eK.ub
  have XI:=eK.le
  refine⟨_,rfl,b,c,t2,rfl,eK.bx,by omega,by omega,fun l r1 r2 r3 nE rS tG near bB H3 t3 gd3 E6 pU hD dv=>gn ?_⟩
  obtain⟨lb,lc⟩:=eK.bx.aO E6
  have mU:fK H3 b c l=some (.lst [r1,r2,r3,.int near,.int bB]):=by rw[bW lb lc];exact pU
  have VJ:aN K (fK H3 b c) [aI nE,aI rS,aI tG,.int near,.int bB] [r1,r2,r3,.int near,.int bB]:=bL (jD (j:=0) hD rfl rfl) (bL (jD (j:=1) hD rfl rfl) (bL (jD (j:=2) hD rfl rfl) (bL wI (bL wI mr))))
  have dv:=eK.trans dv
  have fv:=Bq gd3 VJ
  refine⟨_,rfl,l,r1,r2,r3,.int near,.int bB,_,_,_,_,_,rfl,bb.of pU,⟨fv.e1.same iG,fv.e2.same iG,fv.e3.same iG,fv.e4.same iG,fv.e5.same iG,fv.f1,fv.f2,fv.f3⟩,gd3.why,fun m H4 s4 hm0 fo=>gn ?_⟩
  obtain⟨mb,mc⟩:=dv.bx.aO hm0
  have fR:=dv.trans (Step.same dv.bx s4)
  obtain⟨fr,en,ef⟩:=gd3.ZR
  rw[en,ef] at mU fo
  generalize hF:(⟨nE,rS,tG,near.toNat,bB.toNat⟩:Fb)=Fo at fr
  have fo:kG K CF H4 m Fo:=by rw[<-hF];exact fo
  have fo:=B7 fR.bx mb mc fo
  have hP:ow K (fK H4 b c) l Fo:=by
   refine ow.same ?_ (ao.fK (b:=b) (c:=c) s4)
   rw[<-hF]
   exact⟨r1,r2,r3,bb.of mU,hD⟩
  clear hF fv gd3 en ef hD VJ mU pU
  have Wn:=fR.ub
  have V2:=fR.le
  refine⟨2,rfl,by decide,by decide,?_⟩
  refine eZ (lo:=0) (n:=2) (fun j σ H'=>∃(t':Int) (x5 x6 x7 x8 x9 BS B1 AA AO:Option V),σ=[some (.ref a),some (.ref b),some (.int (0+i)),some (.ref l),some (.ref m),x5,x6,x7,x8,x9,BS,B1,AA,AO]/\Step b c H4 H' t3 t' (1000*j)) ⟨t3,_,_,_,_,_,_,_,_,_,rfl,(Step.refl fR.bx).more (by omega)⟩ ?_ ?_
  ·rintro j σ H5 hj ⟨t5,x5,x6,x7,x8,x9,BS,B1,AA,AO,rfl,cB⟩
   have VQ:=cB.ub
   have Wu:=cB.le
   refine⟨_,rfl,b,c,t5,rfl,cB.bx,by omega,by omega,fun pg rs H6 t6 ok zB pb pc gb=>gn ?_⟩
   have gb:=cB.trans gb
   have W6:=gb.ub
   have Xd:=gb.le
   have V1:=hP.same gb.sm
   have VL:=fo.same gb.sm
   clear hP fo cB eK dv fR
   dsimp only
   refine fA (te:=_) (fun v H'=>dS fun(lj:Addr) (js:List Int)=>v = .ref lj/\Qr js/\H6 lj=none/\ao H6 H'/\H' lj=some (.lst (js.map V.int))) (fun Qn qn =>?_) ?_
   ·obtain⟨as,hS6,al,hT⟩:=zB.same gL
    refine⟨_,rfl,pg,rfl,⟨_,hS6⟩,?_⟩
    refine oI (N:=rs.length) (fun k ys H'=>∃js:List Int,ys=js.map V.int/\js.length<=k/\(∀x∈js,x.natAbs<=1000000)/\ao H6 H') ⟨[],rfl,Je _,(fun _ h=>nomatch h),ao.refl _⟩ ?_ ?_
    ·rintro k ys H7 Nx hk ⟨js,rfl,jl,jb,s7⟩ nx
     have Ob:=ok.1
     have MC:as[k]? = some (as[k]'(by omega)):=Jd _
     have YC:rs[k]? = some rs[k]:=Jd hk
     have hT:=hT _ _ _ MC YC
     have hv:(as.map V.ref)[k]? = some (.ref (as[k]'(by omega))):=by rw[Ji,MC];rfl
     refine⟨⟨_,_,s7.seq hS6,hv⟩,J1 (show _<=100 by rw[Jc];omega) (by decide),?_⟩
     rintro x' H8 ⟨T8,rfl,t80,ht⟩
     have e8:=ht _ _ (s7.seq hS6) hv
     have n8:ao H7 H8:=by rw[e8];exact bD t80 _
     have h8:H8 T8=some (.tup [.int (k:Nat),.ref (as[k]'(by omega))]):=by rw[e8];exact ay
     clear e8 ht
     have s8:=s7.trans n8
     refine⟨_,_,rfl,br.of h8,rfl,_,_,rfl,_,_,rfl,rfl,?_⟩
     refine⟨_,rfl,.inr (.inl ⟨_,_,0,.str rs[k].1,rfl,rfl,s8.bU hT,cX (Y1 0) rfl,by show 2<=sizeLine;decide,fun T9 H9 n9=>⟨T9,(["jump", "zero"]:List Str).map V.str,rfl,.inr (br.of n9.at),rfl,rfl,_,rfl,?_⟩⟩)⟩
     have s9:=s8.trans n9.same
     rw[if_neg Jl,j5]
     refine eU (fun _ =>?_) (fun _ =>?_)
     ·refine⟨_,rfl,nx _ _ ⟨js++[(k:Int)],by rw[Jy];rfl,by rw[Jp];show js.length+1<=k+1;omega,fun x hx =>?_,s9⟩⟩
      rcases Ug.mp hx with hx|hx
      ·exact jb x hx
      ·rw[Jz.mp hx];omega
     ·exact nx _ _ ⟨js,rfl,by omega,jb,s9⟩
    ·rintro ys H7 ⟨js,rfl,jl,jb,s7⟩
     refine⟨⟨_,s7.seq hS6,by rw[Jc,al];exact Je _⟩,fun p H8 n8 =>?_⟩
     exact qn _ _ ⟨p,js,rfl,⟨Jh jl ok.1,jb⟩,C0 s7 n8.nn,s7.trans n8.same,n8.at⟩
   rintro v H7 ⟨lj,js,rfl,fj,lj0,s7,Eb⟩
   refine gn ?_
   obtain⟨ljb,ljc⟩:=gb.bx.aO lj0
   have jf:=gb.trans (Step.same gb.bx s7)
   have QA:=(Step.same gb.bx s7).sm
   have Eb:fK H7 b c lj=some (.lst (js.map V.int)):=by rw[bW ljb ljc];exact Eb
   have zB:=zB.same QA
   have Wo:=V1.same QA
   have Wf:=VL.same QA
   have ub7:=jf.ub
   have Z2:=jf.le
   clear V1 VL gb s7 QA lj0
   refine fA (te:=_) (fun v H'=>m7 fun(ls:Addr) (ss:List Int) (t':Int)=>v = .ref ls/\Qr ss/\(∀x∈ss,x∈js)/\fK H' b c ls=some (.lst (ss.map V.int))/\Step b c H7 H' t6 t' 60) (fun Qn qn =>?_) ?_
   ·refine⟨_,rfl,lj,rfl,⟨_,bb.of (gL _ _ Eb)⟩,?_⟩
    have ZU:=jf.bx
    refine oI (N:=js.length) (fun k ys H'=>∃(ss:List Int) (t':Int),ys=ss.map V.int/\ss.length<=k/\(∀x∈ss,x∈js)/\Step b c H7 H' t6 t' k) ⟨[],t6,rfl,Je _,(fun _ h=>nomatch h),(Step.refl ZU).more (by omega)⟩ ?_ ?_
    ·rintro k ys H8 Nx hk ⟨ss,t8,rfl,sl,sj,eG⟩ nx
     have YQ:=eG.ub
     have Xs:=eG.le
     have Ob:=fj.1
     have hv:(js.map V.int)[k]? = some (.int js[k]):=by rw[Ji,Jd hk];rfl
     have h8:=bb.of (K:=K) (gL _ _ (eG.sm _ _ Eb))
     refine⟨⟨_,_,h8,hv⟩,J1 (show _<=100 by rw[Jc];omega) (by decide),?_⟩
     rintro x' H9 ⟨rfl,hy⟩
     have e:=hy _ h8
     rw[hv] at e;cases e
     refine gn ⟨_,rfl,b,c,t8,2,rfl,eG.bx,by omega,by omega,by decide,by decide,fun r H10 r0 r1 hU =>.inl ⟨rfl,_,rfl,?_⟩⟩
     have hU:=(eG.trans hU)
     refine eU (fun _ =>?_) (fun _ =>?_)
     ·refine⟨_,rfl,nx _ _ ⟨ss++[js[k]],_,by rw[Jy];rfl,by rw[Jp];show ss.length+1<=k+1;omega,fun x hx =>?_,hU.more (by omega)⟩⟩
      rcases Ug.mp hx with hx|hx
      ·exact sj x hx
      ·rw[Jz.mp hx];exact Ub hk
     ·exact nx _ _ ⟨ss,_,rfl,by omega,sj,hU.more (by omega)⟩
    ·rintro ys H8 ⟨ss,t8,rfl,sl,sj,eG⟩
     refine⟨⟨_,bb.of (gL _ _ (eG.sm _ _ Eb)),by rw[Jc];exact Je _⟩,fun p H9 n9 =>?_⟩
     have Ob:=fj.1
     obtain⟨pb',pc'⟩:=eG.bx.aO n9.nn
     exact qn _ _ ⟨p,ss,t8,rfl,⟨by omega,fun x hx=>fj.2 x (sj x hx)⟩,sj,by rw[bW pb' pc'];exact n9.at,(eG.dI n9).more (by omega)⟩
   rintro v H8 ⟨ls,ss,t8,rfl,Qc,sj,Mw,eG⟩
   have Eb:=eG.sm _ _ Eb
   have zB:=zB.same eG.sm
   have QF:=Wo.same eG.sm
   have Qg:=Wf.same eG.sm
   have eG:=jf.trans eG
   refine gn (gn ?_)
   have Eb:=gL _ _ Eb
   have Mw:=gL _ _ Mw
   have zB:=zB.same gL
   have QF:=QF.same gL
   have Qg:=Qg.same gL
   clear Wo Wf jf
   refine⟨by show 0<=sizeLine;decide,fun l0 H9 n9=>⟨_,rfl,_,rfl,by show 3<=sizeLine;decide,fun T10 H10 n10 =>?_⟩⟩
   have DL:=n9.same.trans n10.same
   obtain⟨fss,hfss⟩:∃fss:List (List Int),fss=[[],ss,js]:=⟨_,rfl⟩
   obtain⟨fas,hfas⟩:∃fas:List Addr,fas=[l0,ls,lj]:=⟨_,rfl⟩
   have GH:br K H10 T10 (fas.map V.ref):=by rw[hfas];exact br.of n10.at
   have YA:fss.length=3/\fas.length=3:=by rw[hfss,hfas];exact⟨rfl,rfl⟩
   have XW:∀(k:Nat) fa fs,fas[k]? = some fa->fss[k]? = some fs->Qr fs/\bb K H10 fa (fs.map V.int):=by
    have h0:Qr ([]:List Int):=⟨by decide,fun _ h=>nomatch h⟩
    rw[hfas,hfss]
    intro k fa fs e1 e2
    match k,e1,e2 with
    | 0,e1,e2=>cases e1;cases e2;exact⟨h0,bb.of (n10.same _ _ n9.at)⟩
    | 1,e1,e2=>cases e1;cases e2;exact⟨Qc,bb.of (DL _ _ Mw)⟩
    | 2,e1,e2=>cases e1;cases e2;exact⟨fj,bb.of (DL _ _ Eb)⟩
    | k+3,e1,_=>exact nomatch e1
   have ZK:∀(k:Nat) f1 f2,fss[k]? = some f1->fss[k+1]? = some f2->∀x∈f1,x∈f2:=by
    rw[hfss]
    intro k f1 f2 e1 e2
    match k,e1,e2 with
    | 0,e1,e2=>cases e1;exact fun _ h=>nomatch h
    | 1,e1,e2=>cases e1;cases e2;exact sj
    | k+2,_,e2=>exact nomatch e2
   clear hfas hfss n9 n10 Eb Mw sj fj Qc
   have zB:=zB.same DL
   have Rx:=QF.same DL
   have NJ:=Qg.same DL
   have hU:=eG.trans (Step.same eG.bx DL)
   clear QF Qg eG DL
   obtain⟨hfl1,hfl2⟩:=YA
   refine⟨T10,rfl,⟨_,GH⟩,?_⟩
   refine lL (N:=3) (fun k σ H'=>∃(x9:V) (BS B1 AA AO:Option V),σ=[some (.ref a),some (.ref b),some (.int (0+i)),some (.ref l),some (.ref m),some (.int (0+j)),some (.ref pg),some (.ref lj),some (.ref ls),some x9,BS,B1,AA,AO]/\ao H10 H'/\((k=0/\x9 = .non)∨∃(k':Nat) (p9:Addr) (f1:List Int),k=k'+1/\x9 = .ref p9/\fss[k']? = some f1/\H' p9=some (.lst (pR (kA (rs.map (uI Fo)) f1) rs.length)))) ⟨.non,_,_,_,_,rfl,ao.refl _,.inl ⟨rfl,rfl⟩⟩ ?_ ?_
   ·rintro k σ H11 hk ⟨x9,BS,B1,AA,AO,rfl,s11,hx9⟩
    have MC:fas[k]? = some (fas[k]'(by omega)):=Jd _
    have Ie:fss[k]? = some (fss[k]'(by omega)):=Jd _
    have hv:(fas.map V.ref)[k]? = some (.ref (fas[k]'(by omega))):=by rw[Ji,MC];rfl
    obtain⟨pJ,HV⟩:=XW k _ _ MC Ie
    refine⟨⟨_,_,s11.bU GH,hv⟩,?_⟩
    rintro x' H12 ⟨rfl,hy⟩
    have e:=hy _ (s11.bU GH)
    rw[hv] at e;cases e
    refine gn ?_
    generalize fas[k]'(by omega)=fa at HV
    generalize hfk':fss[k]'(by omega)=fs at HV pJ Ie
    obtain⟨w1,w2,w3⟩:=GG ok pJ.2 pJ.1
    refine⟨_,rfl,_,rfl,by show 2<=sizeLine;decide,fun p13 H13 n13 =>?_⟩
    have zd:=s11.trans n13.same
    refine⟨_,_,rfl,IV n13.at (bL (zJ (zB.same zd)) (bL (uE (zd.seq HV)) mr)),w1,w2,w3,gn ?_⟩
    refine⟨_,rfl,_,rfl,_,rfl,l,pg,fa,Fo,rs,fs,rfl,Rx.same zd,fr,ok,zB.same zd,zd.seq HV,pJ.1,fun qd H14 Fi qd0 hqd=>gn ?_⟩
    have Dm:=zd.trans Fi
    refine⟨_,rfl,_,rfl,_,rfl,m,pg,fa,Fo,rs,fs,rfl,NJ.same Dm,fr,ok,zB.same Dm,Dm.seq HV,pJ.1,fun qf H15 Fj qf0 hqf=>gn ?_⟩
    have NR:=Dm.trans Fj
    have Eg:=Fj _ _ hqd
    have VU:=OB (s:=kA (rs.map (uI Fo)) fs) (n:=rs.length) (fun i hi=>by
     have e:=Jd hi
     obtain⟨ba,hw⟩:=ok.2 _ (Ub hi)
     rw[yy e]
     exact HQ fr _ ba hw) ok.1
    have g1:(Mj (kA (rs.map (uI Fo)) fs) rs.length).depth<8:=J1 VU.dp (by decide)
    have g2:(Mj (kA (rs.map (uI Fo)) fs) rs.length).weight<=1000000:=Jh VU.wt (by decide)
    have ID:∀(k':Nat) f1,k=k'+1->fss[k']? = some f1->∀j,j<=rs.length->mf (kA (rs.map (uI Fo)) f1) j<=mf (kA (rs.map (uI Fo)) fs) j:=fun k' f1 ek e1=>Hf fr ok (ZK k' f1 fs e1 (by rw[<-ek];exact Ie))
    generalize qy:kA (rs.map (uI Fo)) fs=sp at hqd hqf Eg g1 g2 ID
    refine⟨_,rfl,_,rfl,.ref qf,.ref qd,Mj sp rs.length,rfl,tE hqf,tE Eg,g1,g2,fun H16 Fa =>?_⟩
    refine⟨_,rfl,bF ?_⟩
    have Px:=NR.trans Fa
    refine⟨_,rfl,_,rfl,by show 2<=sizeLine;decide,fun p17 H17 n17 =>?_⟩
    have MB:=Px.trans n17.same
    refine⟨_,_,rfl,IV n17.at (bL (zJ (zB.same MB)) (bL (uE (MB.seq HV)) mr)),w1,w2,w3,_,rfl,.inl ⟨rfl,_,rfl,?_⟩⟩
    rw[decide_eq_true rfl]
    refine bF ?_
    have Dt:=n17.same _ _ (Fa _ _ hqf)
    have M7:(pR sp rs.length).length<=100:=by rw[i9];have:=ok.1;omega
    refine⟨_,rfl,.inl ⟨rfl,_,bb.of Dt⟩,qf,_,_,rfl,rfl,Dt,J1 M7 (by decide),fun H18 c18 =>?_⟩
    refine⟨_,rfl,.inl ⟨rfl,_,bb.of c18.at⟩,qf,_,rfl,rfl,c18.at,fun H19 c19 =>?_⟩
    have ED:ao H14 H19:=fun x o e=>by
     have ne:=aw e qf0
     rw[c19.ne ne,c18.ne ne]
     exact n17.same _ _ (Fa _ _ (Fj _ _ e))
    have Qd:=Dm.trans ED
    have PU:=n13.same.trans (Fi.trans ED)
    have IG:=ED _ _ hqd
    clear Fj NR Fa Px n17 MB c18 c19 hqf Dt Eg M7 n13
    refine⟨_,rfl,_,rfl,_,rfl,m,pg,fa,Fo,rs,fs,rfl,NJ.same Qd,fr,ok,zB.same Qd,Qd.seq HV,pJ.1,fun qg H20 s20 _ hqg =>?_⟩
    rw[qy] at hqg
    refine⟨_,rfl,.ref qg,.ref qd,Mj sp rs.length,rfl,tE hqg,tE (s20 _ _ IG),g1,g2,fun H21 s21 =>?_⟩
    refine⟨_,rfl,bF ?_⟩
    have LL:=s20.trans s21
    have yO:=LL _ _ IG
    have SZ:=Qd.trans LL
    have key:∀Hx,ao H21 Hx->∃(x9:V) (BS B1 AA AO:Option V),[some (V.ref a),some (.ref b),some (.int (0+i)),some (.ref l),some (.ref m),some (.int (0+j)),some (.ref pg),some (.ref lj),some (.ref ls),some (.ref qd),some (.ref fa),some (.str (Nh (.list [Af rs,ql fs]))),some (.ref qd),some (.ref qf)]=[some (.ref a),some (.ref b),some (.int (0+i)),some (.ref l),some (.ref m),some (.int (0+j)),some (.ref pg),some (.ref lj),some (.ref ls),some x9,BS,B1,AA,AO]/\ao H10 Hx/\((k+1=0/\x9 = .non)∨∃(k':Nat) (p9:Addr) (f1:List Int),k+1=k'+1/\x9 = .ref p9/\fss[k']? = some f1/\Hx p9=some (.lst (pR (kA (rs.map (uI Fo)) f1) rs.length))):=fun Hx sx=>⟨.ref qd,_,_,_,_,rfl,SZ.trans sx,.inr ⟨k,qd,fs,rfl,rfl,Ie,by rw[qy];exact sx _ _ yO⟩⟩
    refine⟨_,rfl,.inl ⟨rfl,_,rfl,?_⟩⟩
    rcases hx9 with ⟨_,rfl⟩|⟨k',p9,f1,ek,rfl,e1,h9⟩
    ·rw[decide_eq_true rfl]
     exact bF (bF ⟨_,rfl,key _ (ao.refl _)⟩)
    ·rw[decide_eq_false (fun z=>nomatch z)]
     refine bK ?_
     have hm:=ID k' f1 ek e1
     have h9:=LL _ _ (PU _ _ h9)
     refine⟨_,rfl,_,rfl,false,false,p9,qd,rfl,⟨_,bb.of h9⟩,⟨_,bb.of yO⟩,?_⟩
     have Qq:∀(s:Nat->Nat) (j:Nat),j<rs.length+1->(pR s rs.length)[j]? = some (.int (mf s j:Nat)):=fun s j hj=>by
      unfold pR
      rw[Ji,List.getElem?_range hj];rfl
     dsimp only
     refine dh (N:=rs.length+1) (fun j ys H'=>ao H21 H'/\ys=(Ju j true).map V.bl) ⟨ao.refl _,rfl⟩ ?_ ?_
     ·rintro j ys H22 Nx hj ⟨sm,rfl⟩ nx
      have q1:ka false K H22 p9 _:=bb.of (sm _ _ h9)
      have q2:ka false K H22 qd _:=bb.of (sm _ _ yO)
      have WC:=ok.1
      refine⟨⟨_,_,_,_,q1,q2,Qq _ j hj,Qq _ j hj⟩,by rw[Jc,Ul];exact Jq (show j<100 by omega) (by decide),?_⟩
      rintro x' H23 ⟨T',rfl,hN⟩
      have n3:=hN _ _ _ _ q1 q2 (Qq _ j hj) (Qq _ j hj)
      refine⟨T',_,rfl,br.of n3.at,rfl,_,_,rfl,_,_,rfl,rfl,?_⟩
      refine⟨_,rfl,_,rfl,_,_,rfl,rfl,nx _ _ ⟨sm.trans n3.same,?_⟩⟩
      have e:decide (((mf (kA (rs.map (uI Fo)) f1) j:Nat):Int)<=((mf sp j:Nat):Int))=true:=decide_eq_true (by have:=hm j (by omega);omega)
      show _++[V.bl (decide (((mf (kA (rs.map (uI Fo)) f1) j:Nat):Int)<=((mf sp j:Nat):Int)))]=_
      rw[e]
      rw[List.replicate_succ',Jy];rfl
     ·rintro ys H22 ⟨sm,rfl⟩
      have q1:ka false K H22 p9 _:=bb.of (sm _ _ h9)
      have q2:ka false K H22 qd _:=bb.of (sm _ _ yO)
      refine⟨⟨_,_,q1,q2,.inl (by rw[i9];exact Je _)⟩,fun p24 hp24 =>?_⟩
      refine⟨p24,Ju (rs.length+1) true,rfl,bb.of ay,_,rfl,?_⟩
      rw[all_true]
      exact bF ⟨_,rfl,key _ (sm.trans (bD hp24 _))⟩
   ·rintro σ H11 ⟨x9,BS,B1,AA,AO,rfl,s11,_⟩
    refine⟨⟨_,s11.bU GH,by rw[Jc,hfl2];exact Je _⟩,?_⟩
    exact⟨_,_,_,_,_,_,_,_,_,_,rfl,(hU.trans (Step.same hU.bx s11)).more (by omega)⟩
  ·rintro σ H5 ⟨t5,x5,x6,x7,x8,x9,BS,B1,AA,AO,rfl,cB⟩
   exact⟨_,_,_,_,_,_,_,_,_,_,_,_,_,rfl,(fR.trans cB).more (by omega)⟩
 ·rintro σ H2 ⟨t2,x2,x3,x4,x5,x6,x7,x8,x9,BS,B1,AA,AO,rfl,eK⟩
  exact q H2
end
theorem bT {α:Type}{P:List α->Prop}(h:P []):∀us:List α,us.length=0->P us:=fun us e=>Yu e▸h
theorem aW {α:Type}{P:List α->Prop}{n:Nat}(h:∀a (us:List α),us.length=n->P (a::us))(us:List α)(e:us.length=n+1):P us:=by
 cases us with|nil=>cases e|cons a us=>exact h a us (Nat.succ.inj e)
theorem all_mk {l:PySem.W.OpenLaw}{w:World}{K:Ja}{h:Heap}{mg:Str->Option Value}{fa f1 f2 f3 f4 f5 f6 f7 f8 f9 Rh Q0 UU SJ RS Rk JT QY T5 UA UB Vs S9 Vk Ro Tb Qo Q1 RP R4 Sn RX RT RC Ru Vy QU UK RA Tr SO SY:Addr}(X:K.In h)(G:h.Ns mainGlobals mg)(HV:mg "law" = some (.ref fa))
  {Zh:FuncData}
  {YV:FuncData}
  {WG:FuncData}
  {Zg:FuncData}
  {WQ:FuncData}
  {W4:FuncData}
  {YI:FuncData}
  {ZZ:FuncData}
  {ZN:FuncData}
  {Tz:FuncData}
  {Sd:FuncData}
  {Q6:FuncData}
  {RL:FuncData}
  {S1:FuncData}
  {SX:FuncData}
  {SR:FuncData}
  {R6:FuncData}
  {Sl:FuncData}
  {SI:FuncData}
  {Rw:FuncData}
  {UE:FuncData}
  {SS:FuncData}
  {UN:FuncData}
  {UC:FuncData}
  {Rg:FuncData}
  {Tg:FuncData}
  {Q2:FuncData}
  {SD:FuncData}
  {UI:FuncData}
  {Tn:FuncData}
  {RJ:FuncData}
  {T6:FuncData}
  {Q8:FuncData}
  {Rc:FuncData}
  {Sz:FuncData}
  {SU:FuncData}
  {Rl:FuncData}
  {R1:FuncData}
  {S7:FuncData}
  {To:FuncData}
  {T3 PF:Option Addr} {QZ:Array (Option Value)} {SQ O1 Og OO K7 Pg:Value}
  {dZ:Addr}
  {cM:Addr}
  {cj:Addr}
  {bJ:Addr}
  {TJ:Tok}
  {SK:Tok}
  {RU:Tok}
  {N7:Tok}
  {NM:Tok}
  {OM:Tok}
  {T4:Tok}
  {aS:Addr} {VW:List Value} {Zy:Nat} {XV:Array (Option Value)}
  {aZ:Addr} {V9:List Value} {ZA:Nat} {ZT:Array (Option Value)}
  {aJ:Addr} {Wq:List Value} {X2:Nat} {WS:Array (Option Value)}
  {aP:Addr} {RE:Array DictEntry} {Zq:Nat}
  {Im:Addr} {Co:List Value} {JO:Nat} {Ma:Array (Option Value)}
  {IA:Addr} {EJ:List Value} {LX:Nat} {JQ:Array (Option Value)}
  {DI:Addr} {yM:List Value} {Gp:Nat} {Hn:Array (Option Value)}
  {EM:Addr} {yT:List Value} {GA:Nat} {GO:Array (Option Value)}
  {IX:Addr} {Cv:List Value} {KS:Nat} {Me:Array (Option Value)}
  {EC:Addr} {zy:List Value} {Fp:Nat} {Hy:Array (Option Value)}
  {CA:Addr} {zk:List Value} {GS:Nat} {Ft:Array (Option Value)}
  {Em:Addr} {zq:List Value} {FL:Nat} {Gj:Array (Option Value)}
  {qK:Addr} {m5:List Value} {xr:Nat} {yu:Array (Option Value)}
  {qD:Addr} {pC:List Value} {xJ:Nat} {wm:Array (Option Value)}
  {EY:Addr} {zF:List Value} {G1:Nat} {HI:Array (Option Value)}
  {xM:Addr} {vK xt:Str} {uX:List Value} {uA:Bool} {u4:List Str} {vX:List Value} {uY:Bool} {tV:Option Bool} {u9:Option Addr} {vd vD uc v7 vi:Option Value}
  {C6:Addr} {Bf DA:Str} {Ag:List Value} {AM:List Str} {Bh:List Value} {B3:Bool} {Az:Option Bool} {B6:Option Addr} {AW BW A4 Ak B4:Option Value}
  {kC:Addr} {Ay zS:Option Addr} {A0:Array (Option Value)} {AX Am Bt qJ Bb:Value}
  {CM:Addr} {A5 DU:Str} {zZ:List Value} {Bj:List Str} {Bd:List Value} {A3:Bool} {BF:Option Bool} {BB:Option Addr} {AV BJ A8 AJ zW:Option Value}
  {kH:Addr} {B0 Cc:Option Addr} {BX:Array (Option Value)} {A9 Ai AI qX Bl:Value}
  {oJ:Addr} {HD:Value} {Hm GJ:Option Addr} {G2:Array (Option Value)} {Fl FR HG zA Fu:Value}
  (a1:Jg K mainGlobals "made_of" = some (some (.ref f1))) (F1:bO K "made_of" "made_of" (top lT) f1 Zh)
  (a2:Jg K mainGlobals "is_name" = some (some (.ref f2))) (F2:bO K "is_name" "is_name" (top lE) f2 YV)
  (a3:Jg K mainGlobals "is_code" = some (some (.ref f3))) (F3:bO K "is_code" "is_code" (top lN) f3 WG)
  (a4:Jg K mainGlobals "rest_of" = some (some (.ref f4))) (F4:bO K "rest_of" "rest_of" (top lB) f4 Zg)
  (a5:Jg K mainGlobals "is_number" = some (some (.ref f5))) (F5:bO K "is_number" "is_number" (top iy) f5 WQ)
  (a6:Jg K mainGlobals "is_entry" = some (some (.ref f6))) (F6:bO K "is_entry" "is_entry" (top jA) f6 W4)
  (a7:Jg K mainGlobals "is_book" = some (some (.ref f7))) (F7:bO K "is_book" "is_book" (top lx) f7 YI)
  (a8:Jg K mainGlobals "clash" = some (some (.ref f8))) (F8:bO K "clash" "clash" (top rP) f8 ZZ)
  (a9:Jg K mainGlobals "free" = some (some (.ref f9))) (F9:bO K "free" "free" (top xA) f9 ZN)
  (R7:Jg K mainGlobals "is_free_book_of" = some (some (.ref Rh))) (OT:bO K "is_free_book_of" "is_free_book_of" (top dH) Rh Tz)
  (S5:Jg K mainGlobals "far_is_shorter" = some (some (.ref Q0))) (O2:bO K "far_is_shorter" "far_is_shorter" (top d6) Q0 Sd)
  (S6:Jg K mainGlobals "first_wrong" = some (some (.ref UU))) (NV:bO K "first_wrong" "first_wrong" (top fU) UU Q6)
  (Vl:Jg K mainGlobals "two_to" = some (some (.ref SJ))) (NY:bO K "two_to" "two_to" (top nW) SJ RL)
  (Sa:Jg K mainGlobals "figures_of" = some (some (.ref RS))) (Pl:bO K "figures_of" "figures_of" (top gO) RS S1)
  (TB:Jg K mainGlobals "is_reached" = some (some (.ref Rk))) (MJ:bO K "is_reached" "is_reached" (top gM) Rk SX)
  (RI:Jg K mainGlobals "put_distance" = some (some (.ref JT))) (Oo:bO K "put_distance" "put_distance" (top fF) JT SR)
  (Rq:Jg K mainGlobals "put_part" = some (some (.ref QY))) (NQ:bO K "put_part" "put_part" (top jS) QY R6)
  (SE:Jg K mainGlobals "put_bare" = some (some (.ref T5))) (Oq:bO K "put_bare" "put_bare" (top jJ) T5 Sl)
  (Su:Jg K mainGlobals "bare_of" = some (some (.ref UA))) (Ov:bO K "bare_of" "bare_of" (top kX) UA SI)
  (Si:Jg K mainGlobals "row_size" = some (some (.ref UB))) (PJ:bO K "row_size" "row_size" (top jC) UB Rw)
  (Tj:Jg K mainGlobals "row_sizes" = some (some (.ref Vs))) (Oe:bO K "row_sizes" "row_sizes" (top iH) Vs UE)
  (Ry:Jg K mainGlobals "places_with" = some (some (.ref S9))) (MV:bO K "places_with" "places_with" (top fV) S9 SS)
  (T7:Jg K mainGlobals "places_by" = some (some (.ref Vk))) (MR:bO K "places_by" "places_by" (top iI) Vk UN)
  (TY:Jg K mainGlobals "_law_begin" = some (some (.ref Ro))) (Oi:bO K "_law_begin" "_law_begin" (top iU) Ro UC)
  (TN:Jg K mainGlobals "_law_take" = some (some (.ref Tb))) (PD:bO K "_law_take" "_law_take" (top jF) Tb Rg)
  (Qp:Jg K mainGlobals "_law_same" = some (some (.ref Qo))) (Oy:bO K "_law_same" "_law_same" (top jB) Qo Tg)
  (Tl:Jg K mainGlobals "_law_mixed" = some (some (.ref Q1))) (N6:bO K "_law_mixed" "_law_mixed" (top ig) Q1 Q2)
  (Tw:Jg K mainGlobals "_law_codes" = some (some (.ref RP))) (N1:bO K "_law_codes" "_law_codes" (top iM) RP SD)
  (TC:Jg K mainGlobals "_law_kinds" = some (some (.ref R4))) (Oa:bO K "_law_kinds" "_law_kinds" (top iL) R4 UI)
  (Sv:Jg K mainGlobals "_law_sizes" = some (some (.ref Sn))) (OD:bO K "_law_sizes" "_law_sizes" (top ij) Sn Tn)
  (SG:Jg K mainGlobals "_law_parts" = some (some (.ref RX))) (O9:bO K "_law_parts" "_law_parts" (top iA) RX RJ)
  (RB:Jg K mainGlobals "_law_form" = some (some (.ref RT))) (Pr:bO K "_law_form" "_law_form" (top jI) RT T6)
  (TU:Jg K mainGlobals "_law_figures" = some (some (.ref RC))) (O4:bO K "_law_figures" "_law_figures" (top fQ) RC Q8)
  (SV:Jg K mainGlobals "_law_power" = some (some (.ref Ru))) (MK:bO K "_law_power" "_law_power" (top ic) Ru Rc)
  (Vb:Jg K mainGlobals "_law_far_word" = some (some (.ref Vy))) (NF:bO K "_law_far_word" "_law_far_word" (top fh) Vy Sz)
  (UL:Jg K mainGlobals "_law_put" = some (some (.ref QU))) (NB:bO K "_law_put" "_law_put" (top la) QU SU)
  (Q4:Jg K mainGlobals "_law_row" = some (some (.ref UK))) (O7:bO K "_law_row" "_law_row" (top lh) UK Rl)
  (UP:Jg K mainGlobals "_law_program" = some (some (.ref RA))) (Pj:bO K "_law_program" "_law_program" (top fW) RA R1)
  (TQ:Jg K mainGlobals "_law_bare" = some (some (.ref Tr))) (OA:bO K "_law_bare" "_law_bare" (top jX) Tr S7)
  (Rr:Jg K mainGlobals "_law_places" = some (some (.ref SO))) (OC:bO K "_law_places" "_law_places" (top gF) SO To)
  (Tu:Jg K mainGlobals "law" = some (some (.ref SY))) (Th:K.lookup SY=some ⟨SQ,T3,.func (Yp "law" "law" (dJ (top gr)) (cR (top gr)) (aj (top gr)) .none O1 Og OO PF K7 Pg),QZ⟩) (S2:Y7 K K7 "law" = true) (Sq:Uu K (.ref SY)=true)
  (iC:Jg K mainGlobals "OddError" = some (some (.ref dZ)))
  (lQ:Jg K mainGlobals "NoForm" = some (some (.ref cM)))
  (lO:Jg K mainGlobals "TooFar" = some (some (.ref cj)))
  (tu:Jg K mainGlobals "Form" = some (some (.ref bJ)))
  (Vt:Jg K mainGlobals "LONGEST_NAME" = some (some (.int 8 TJ)))
  (Vn:Jg K mainGlobals "SMALL_LETTERS" = some (some (.str su SK)))
  (RK:Jg K mainGlobals "SIGNS" = some (some (.str nH RU)))
  (Qe:Jg K mainGlobals "LEAST_NEAR" = some (some (.int 2 N7)))
  (QE:Jg K mainGlobals "MOST_NEAR" = some (some (.int 8 NM)))
  (QN:Jg K mainGlobals "MOST_FAR" = some (some (.int 16 OM)))
  (RG:Jg K mainGlobals "SKIP_FIGURES" = some (some (.int 3 T4)))
  (Tc:Jg K mainGlobals "SPOT_NAMES" = some (some (.ref aS)))
  (UR:K.lookup aS=some ⟨.type "tuple",none,.seq VW.toArray Zy,XV⟩)
  (Sj:Vals [V.str "a",V.str "b",V.str "c",V.str "d"] VW)
  (Qz:Jg K mainGlobals "SIZE_NAMES" = some (some (.ref aZ)))
  (QI:K.lookup aZ=some ⟨.type "tuple",none,.seq V9.toArray ZA,ZT⟩)
  (QO:Vals [V.str "none",V.str "one",V.str "two",V.str "three",V.str "four",V.str "five",V.str "six",V.str "seven",V.str "eight"] V9)
  (S3:Jg K mainGlobals "JUMPS" = some (some (.ref aJ)))
  (Sw:K.lookup aJ=some ⟨.type "tuple",none,.seq Wq.toArray X2,WS⟩)
  (Vv:Vals [V.str "jump",V.str "zero"] Wq)
  (Qm:Jg K mainGlobals "PARTS" = some (some (.ref aP)))
  (Qb:K.lookup aP=some ⟨.type "dict",none,.dict RE Zq,#[]⟩)
  (Oj:PySem.W.KeysLit w.params RE.toList)
  (QQ:RE.toList.map (fun e=>CD e.key)=aE)
  (R0:(aP==sysModules)=false)
  (tw:Jg K aP "set" = some (some (.ref Im)))
  (xS:K.lookup Im=some ⟨.type "tuple",none,.seq Co.toArray JO,Ma⟩)
  (xH:Vals [V.str "spot",V.str "number"] Co)
  (sO:Jg K aP "add" = some (some (.ref IA)))
  (yd:K.lookup IA=some ⟨.type "tuple",none,.seq EJ.toArray LX,JQ⟩)
  (wg:Vals [V.str "spot",V.str "spot"] EJ)
  (ot:Jg K aP "take" = some (some (.ref DI)))
  (sA:K.lookup DI=some ⟨.type "tuple",none,.seq yM.toArray Gp,Hn⟩)
  (rq:Vals [V.str "spot",V.str "spot"] yM)
  (pB:Jg K aP "tell" = some (some (.ref EM)))
  (sC:K.lookup EM=some ⟨.type "tuple",none,.seq yT.toArray GA,GO⟩)
  (tO:Vals [V.str "spot"] yT)
  (rB:Jg K aP "ask" = some (some (.ref IX)))
  (xO:K.lookup IX=some ⟨.type "tuple",none,.seq Cv.toArray KS,Me⟩)
  (xE:Vals [V.str "spot"] Cv)
  (mW:Jg K aP "jump" = some (some (.ref EC)))
  (tT:K.lookup EC=some ⟨.type "tuple",none,.seq zy.toArray Fp,Hy⟩)
  (sU:Vals [V.str "near"] zy)
  (ox:Jg K aP "zero" = some (some (.ref CA)))
  (rK:K.lookup CA=some ⟨.type "tuple",none,.seq zk.toArray GS,Ft⟩)
  (tF:Vals [V.str "spot",V.str "near"] zk)
  (oO:Jg K aP "stop" = some (some (.ref Em)))
  (rJ:K.lookup Em=some ⟨.type "tuple",none,.seq zq.toArray FL,Gj⟩)
  (rz:Vals [] zq)
  (iP:Jg K aP "farjump" = some (some (.ref qK)))
  (jM:K.lookup qK=some ⟨.type "tuple",none,.seq m5.toArray xr,yu⟩)
  (jZ:Vals [V.str "far"] m5)
  (iV:Jg K aP "farzero" = some (some (.ref qD)))
  (jU:K.lookup qD=some ⟨.type "tuple",none,.seq pC.toArray xJ,wm⟩)
  (jG:Vals [V.str "spot",V.str "far"] pC)
  (nk:Jg K aP "skip" = some (some (.ref EY)))
  (rG:K.lookup EY=some ⟨.type "tuple",none,.seq zF.toArray G1,HI⟩)
  (tQ:Vals [V.str "many"] zF)
  (iZ:K.lookup dZ=some (excClassObj vK xt dZ xM uX ([.type "ValueError",.type "Exception",.type "BaseException",.type "object"]) uA u4 vX uY tV u9 vd vD uc v7 vi "ValueError.__new__"))
  (i8:PySem.W.excIn K dZ [.type "ValueError",.type "Exception",.type "BaseException",.type "object"] "ValueError.__new__" = true)
  (mQ:K.lookup cM=some (excClassObj Bf DA cM C6 Ag (.ref dZ::[.type "ValueError",.type "Exception",.type "BaseException",.type "object"]) true AM Bh B3 Az B6 AW BW A4 Ak B4 "ValueError.__new__"))
  (oX:Uu K (.ref cM)=true)
  (lG:Ua K (.ref cM) "__init__" = some (some (.ref kC)))
  (kM:K.lookup kC=some ⟨.type "function",Ay,.func (Yp "__init__" "NoForm.__init__" (dJ (inClass (top gw) 0)) (cR (inClass (top gw) 0)) (aj (inClass (top gw) 0)) .none AX Am Bt zS qJ Bb),A0⟩)
  (nO:Y7 K qJ "NoForm.__init__" = true)
  (o9:Uu K (.ref kC)=true)
  (nZ:Ua K (.ref cM) "__setattr__" = some (some (.builtin "object.__setattr__")))
  (oo:Ua K (.ref cM) "why" = some none)
  (oZ:PySem.W.mroIn K cM (.type "object")=some true)
  (mL:K.lookup cj=some (excClassObj A5 DU cj CM zZ (.ref dZ::[.type "ValueError",.type "Exception",.type "BaseException",.type "object"]) true Bj Bd A3 BF BB AV BJ A8 AJ zW "ValueError.__new__"))
  (oN:Uu K (.ref cj)=true)
  (ll:Ua K (.ref cj) "__init__" = some (some (.ref kH)))
  (kT:K.lookup kH=some ⟨.type "function",B0,.func (Yp "__init__" "TooFar.__init__" (dJ (inClass (top gp) 0)) (cR (inClass (top gp) 0)) (aj (inClass (top gp) 0)) .none A9 Ai AI Cc qX Bl),BX⟩)
  (oM:Y7 K qX "TooFar.__init__" = true)
  (om:Uu K (.ref kH)=true)
  (nD:Ua K (.ref cj) "__setattr__" = some (some (.builtin "object.__setattr__")))
  (mT:Ua K (.ref cj) "row" = some none)
  (nN:PySem.W.mroIn K cj (.type "object")=some true)
  (KQ:PySem.W.plainGet K bJ Str.empty=true)
  (Le:PySem.W.hasDictIn K bJ=true)
  (K1:PySem.W.plainOver K bJ=true)
  (Lf:Ua K (.ref bJ) "__setattr__" = some (some (.builtin "object.__setattr__")))
  (JZ:PySem.W.makesIn K bJ=true)
  (L5:Uu K (.ref bJ)=true)
  (ju:Ua K (.ref bJ) "kinds" = some none)
  (jv:Ua K (.ref bJ) "spots" = some none)
  (jT:Ua K (.ref bJ) "sizes" = some none)
  (lJ:Ua K (.ref bJ) "near" = some none)
  (mS:Ua K (.ref bJ) "far" = some none)
  (rj:Ua K (.ref bJ) "__init__" = some (some (.ref oJ)))
  (sJ:K.lookup oJ=some ⟨HD,Hm,.func (Yp "__init__" "Form.__init__" (dJ (inClass (top ly) 0)) (cR (inClass (top ly) 0)) (aj (inClass (top ly) 0)) .none Fl FR HG GJ zA Fu),G2⟩)
  (rZ:Y7 K zA "Form.__init__" = true)
  (rT:Uu K (.ref oJ)=true)
  (sr:PySem.W.isFn K (.ref oJ)=true)
  (y0:Jg K mainGlobals "sorted" = some none)
  (y1:Jg K mainGlobals "dict" = some none)
  (z0:Jg K mainGlobals "len" = some none) (z1:Jg K mainGlobals "range" = some none) (z2:Jg K mainGlobals "max" = some none) (z3:Jg K mainGlobals "min" = some none) (z4:Jg K mainGlobals "sum" = some none) (z5:Jg K mainGlobals "all" = some none) (z6:Jg K mainGlobals "any" = some none) (z7:Jg K mainGlobals "list" = some none) (z8:Jg K mainGlobals "tuple" = some none) (z9:Jg K mainGlobals "int" = some none) (T2:Jg K mainGlobals "str" = some none) (R9:Jg K mainGlobals "bool" = some none) (R8:Jg K mainGlobals "zip" = some none) (Tt:Jg K mainGlobals "enumerate" = some none) (UM:Jg K mainGlobals "isinstance" = some none) (RR:Jg K mainGlobals "divmod" = some none) :
  ∃fd:FuncData,(∀(s:Shared) (v:Value),BindsTo s fd ⟨[v],[]⟩ [("_law_script",v)])/\∀base:Heap,K.In base->base.Ns mainGlobals mg->bh l.prog w K mg base eP 10 fa fd ["_law_script"] (yZ K):=by
 have e:=HV.symm.trans (Jj X G Tu)
 cases e
 have T:Nm mg:=⟨J6 X G z0,J6 X G z1,J6 X G z2,J6 X G z3,J6 X G z4,J6 X G z5,J6 X G z6,J6 X G z7,J6 X G z8,J6 X G z9,J6 X G T2,J6 X G R9,J6 X G R8,J6 X G Tt,J6 X G UM,J6 X G RR⟩
 have kI:=J6 X G y0
 have cA:=J6 X G y1
 have fm:=Jj X G Vt
 have eR:=Jj X G Vn
 have rh:=Jj X G RK
 have kE:=Jj X G Qe
 have l8:=Jj X G QE
 have oH:=Jj X G QN
 have fq:=Jj X G RG
 have ja:=Jj X G S3
 have hJ:∀H,br K H aJ [V.str "jump",V.str "zero"]:=di Sw Vv (by decide)
 have XE:Pf K l.prog w mg aP aS aZ N7 NM OM:=⟨Jj X G Qm,Jj X G Tc,Jj X G Qz,⟨_,_,_,⟨Qb,Oj,qo Oj,by rw[v8,QQ];decide +kernel,R0⟩,v8.trans QQ⟩,di UR Sj (by decide),di QI QO (by decide),Jj X G Qe,Jj X G QE,Jj X G QN⟩
 have DR:nz K cM "why":=vh mQ nZ oo oZ
 have oY:Lq K cM kC:=⟨⟨_,_,_,_,_,_,_,_,_,_,_,_,_,_,_,_,mQ,vG iZ i8⟩,lG,⟨_,kM,rfl⟩,oX⟩
 have qk:=aU (st:=inClass (top gw) 0) kM nO o9
 have nK:=qk.binds (ps:=["self", "why"]) fun _ _ _ _ _ _=>aW fun _=>aW fun _=>bT rfl
 have Dg:nz K cj "row":=vh mL nD mT nN
 have nq:Lq K cj kH:=⟨⟨_,_,_,_,_,_,_,_,_,_,_,_,_,_,_,_,mL,vG iZ i8⟩,ll,⟨_,kT,rfl⟩,oN⟩
 have qQ:=aU (st:=inClass (top gp) 0) kT oM om
 have oE:=qQ.binds (ps:=["self", "row"]) fun _ _ _ _ _ _=>aW fun _=>aW fun _=>bT rfl
 have yH:=aU (st:=inClass (top ly) 0) sJ rZ rT
 have KM:=yH.binds (ps:=["self", "kinds", "spots", "sizes", "near", "far"]) fun _ _ _ _ _ _=>aW fun _=>aW fun _=>aW fun _=>aW fun _=>aW fun _=>aW fun _=>bT rfl
 have MF:Hj K bJ:=⟨⟨KQ,Le,K1,Lf⟩,ju,jv,jT,lJ,mS⟩
 have W9:Mk K bJ oJ:=⟨JZ,rj,sr,L5⟩
 have dA:=Jj X G Qz
 have hZ:∀H,br K H aZ (bt.map V.str):=di QI QO (by decide)
 have NS:N8 K w mg aP:=⟨Jj X G Qm,⟨_,_,Qb,Oj⟩,fun q hq=>by
  simp only[gN,Jv,Ue,or_false] at hq
  rcases hq with rfl|rfl|rfl|rfl|rfl|rfl|rfl|rfl|rfl|rfl|rfl
  ·exact⟨_,tw,di (xs:=[V.str "spot",V.str "number"]) xS xH (by decide)⟩
  ·exact⟨_,sO,di (xs:=[V.str "spot",V.str "spot"]) yd wg (by decide)⟩
  ·exact⟨_,ot,di (xs:=[V.str "spot",V.str "spot"]) sA rq (by decide)⟩
  ·exact⟨_,pB,di (xs:=[V.str "spot"]) sC tO (by decide)⟩
  ·exact⟨_,rB,di (xs:=[V.str "spot"]) xO xE (by decide)⟩
  ·exact⟨_,mW,di (xs:=[V.str "near"]) tT sU (by decide)⟩
  ·exact⟨_,ox,di (xs:=[V.str "spot",V.str "near"]) rK tF (by decide)⟩
  ·exact⟨_,oO,di (xs:=[]) rJ rz (by decide)⟩
  ·exact⟨_,iP,di (xs:=[V.str "far"]) jM jZ (by decide)⟩
  ·exact⟨_,iV,di (xs:=[V.str "spot",V.str "far"]) jU jG (by decide)⟩
  ·exact⟨_,nk,di (xs:=[V.str "many"]) rG tQ (by decide)⟩⟩
 have JG:=Jj X G iC
 have nJ:=Jj X G lQ
 have nB:=Jj X G lO
 have wD:=Jj X G tu
 have k1:=F1.kp
 have b1:=F1.binds (ps:=["text", "signs"]) fun _ _ _ _ _ _=>aW fun _=>aW fun _=>bT rfl
 have k2:=F2.kp
 have b2:=F2.binds (ps:=["thing"]) fun _ _ _ _ _ _=>aW fun _=>bT rfl
 have k3:=F3.kp
 have b3:=F3.binds (ps:=["thing"]) fun _ _ _ _ _ _=>aW fun _=>bT rfl
 have k4:=F4.kp
 have b4:=F4.binds (ps:=["one", "other"]) fun _ _ _ _ _ _=>aW fun _=>aW fun _=>bT rfl
 have k5:=F5.kp
 have b5:=F5.binds (ps:=["thing"]) fun _ _ _ _ _ _=>aW fun _=>bT rfl
 have k6:=F6.kp
 have b6:=F6.binds (ps:=["thing"]) fun _ _ _ _ _ _=>aW fun _=>bT rfl
 have k7:=F7.kp
 have b7:=F7.binds (ps:=["thing"]) fun _ _ _ _ _ _=>aW fun _=>bT rfl
 have k8:=F8.kp
 have b8:=F8.binds (ps:=["book"]) fun _ _ _ _ _ _=>aW fun _=>bT rfl
 have k9:=F9.kp
 have b9:=F9.binds (ps:=["book"]) fun _ _ _ _ _ _=>aW fun _=>bT rfl
 have Ot:=OT.kp
 have ZB:=OT.binds (ps:=["thing", "names"]) fun _ _ _ _ _ _=>aW fun _=>aW fun _=>bT rfl
 have Zd:=O2.kp
 have Zr:=O2.binds (ps:=["kinds", "near", "far"]) fun _ _ _ _ _ _=>aW fun _=>aW fun _=>aW fun _=>bT rfl
 have XH:=NV.kp
 have XD:=NV.binds (ps:=["kinds", "spots", "sizes", "near", "far"]) fun _ _ _ _ _ _=>aW fun _=>aW fun _=>aW fun _=>aW fun _=>aW fun _=>bT rfl
 have Bz:=NY.kp
 have Zv:=NY.binds (ps:=["power"]) fun _ _ _ _ _ _=>aW fun _=>bT rfl
 have YZ:=Pl.kp
 have XJ:=Pl.binds (ps:=["number", "many"]) fun _ _ _ _ _ _=>aW fun _=>aW fun _=>bT rfl
 have Z1:=MJ.kp
 have Zi:=MJ.binds (ps:=["distance", "figures"]) fun _ _ _ _ _ _=>aW fun _=>aW fun _=>bT rfl
 have YF:=Oo.kp
 have Xa:=Oo.binds (ps:=["distance", "figures"]) fun _ _ _ _ _ _=>aW fun _=>aW fun _=>bT rfl
 have XQ:=NQ.kp
 have ZE:=NQ.binds (ps:=["form", "part", "value"]) fun _ _ _ _ _ _=>aW fun _=>aW fun _=>aW fun _=>bT rfl
 have Zk:=Oq.kp
 have YH:=Oq.binds (ps:=["form", "bare"]) fun _ _ _ _ _ _=>aW fun _=>aW fun _=>bT rfl
 have Zu:=Ov.kp
 have YB:=Ov.binds (ps:=["row", "far", "distance"]) fun _ _ _ _ _ _=>aW fun _=>aW fun _=>aW fun _=>bT rfl
 have Zf:=PJ.kp
 have YE:=PJ.binds (ps:=["form", "row", "far"]) fun _ _ _ _ _ _=>aW fun _=>aW fun _=>aW fun _=>bT rfl
 have ZO:=Oe.kp
 have ZD:=Oe.binds (ps:=["form", "program"]) fun _ _ _ _ _ _=>aW fun _=>aW fun _=>bT rfl
 have Z0:=MV.kp
 have WR:=MV.binds (ps:=["sizes", "fars"]) fun _ _ _ _ _ _=>aW fun _=>aW fun _=>bT rfl
 have Zz:=MR.kp
 have Xk:=MR.binds (ps:=["form", "program", "fars"]) fun _ _ _ _ _ _=>aW fun _=>aW fun _=>aW fun _=>bT rfl
 have WM:=Oi.kp
 have Xx:=Oi.binds (ps:=["_law_script"]) fun _ _ _ _ _ _=>aW fun _=>bT rfl
 have ZL:=PD.kp
 have ZS:=PD.binds (ps:=["_law_state", "_law_many"]) fun _ _ _ _ _ _=>aW fun _=>aW fun _=>bT rfl
 have We:=Oy.kp
 have Ws:=Oy.binds (ps:=["_law_found", "_law_due"]) fun _ _ _ _ _ _=>aW fun _=>aW fun _=>bT rfl
 have YY:=N6.kp
 have XT:=N6.binds (ps:=["_law_state", "_law_some"]) fun _ _ _ _ _ _=>aW fun _=>aW fun _=>bT rfl
 have Xw:=N1.kp
 have WE:=N1.binds (ps:=["_law_state", "_law_many", "_law_most"]) fun _ _ _ _ _ _=>aW fun _=>aW fun _=>aW fun _=>bT rfl
 have X8:=Oa.kp
 have Xe:=Oa.binds (ps:=[]) fun _ _ _ _ _ _=>bT rfl
 have W8:=OD.kp
 have YW:=OD.binds (ps:=[]) fun _ _ _ _ _ _=>bT rfl
 have WH:=O9.kp
 have YT:=O9.binds (ps:=["_law_state"]) fun _ _ _ _ _ _=>aW fun _=>bT rfl
 have ZJ:=Pr.kp
 have YO:=Pr.binds (ps:=["_law_parts_here"]) fun _ _ _ _ _ _=>aW fun _=>bT rfl
 have X4:=O4.kp
 have WL:=O4.binds (ps:=["_law_number", "_law_many"]) fun _ _ _ _ _ _=>aW fun _=>aW fun _=>bT rfl
 have WV:=MK.kp
 have X1:=MK.binds (ps:=["_law_many"]) fun _ _ _ _ _ _=>aW fun _=>bT rfl
 have Zc:=NF.kp
 have YN:=NF.binds (ps:=["_law_word"]) fun _ _ _ _ _ _=>aW fun _=>bT rfl
 have W0:=NB.kp
 have YX:=NB.binds (ps:=["_law_parts_here", "_law_bare_here"]) fun _ _ _ _ _ _=>aW fun _=>aW fun _=>bT rfl
 have W3:=O7.kp
 have YK:=O7.binds (ps:=["_law_state", "_law_many", "_law_number"]) fun _ _ _ _ _ _=>aW fun _=>aW fun _=>aW fun _=>bT rfl
 have Za:=Pj.kp
 have XB:=Pj.binds (ps:=["_law_state", "_law_most"]) fun _ _ _ _ _ _=>aW fun _=>aW fun _=>bT rfl
 have ZW:=OA.kp
 have XG:=OA.binds (ps:=["_law_row_here", "_law_distance", "_law_far"]) fun _ _ _ _ _ _=>aW fun _=>aW fun _=>aW fun _=>bT rfl
 have ZQ:=OC.kp
 have XU:=OC.binds (ps:=["_law_parts_here", "_law_program_here", "_law_fars"]) fun _ _ _ _ _ _=>aW fun _=>aW fun _=>aW fun _=>bT rfl
 have XR:=aU (st:=top gr) Th S2 Sq
 refine⟨Yp "law" "law" (dJ (top gr)) (cR (top gr)) (aj (top gr)) .none O1 Og OO PF K7 Pg,fun s v =>.of_eq rfl,fun base hB hG =>?_⟩
 have o7:=pK (P:=l.prog) (w:=w) (mg:=mg) (base:=base) qk DR
 have oC:=pT (P:=l.prog) (w:=w) (mg:=mg) (base:=base) qQ Dg
 have Iv:Fn l.prog w K mg base 1 "made_of" ["text", "signs"] (rm):=⟨f1,_,Go F1 T,b1,k1,Jj X G a1⟩
 have Vc:Fn l.prog w K mg base 2 "is_name" ["thing"] (kR K cS):=⟨f2,_,Ba F2 T fm eR Iv,b2,k2,Jj X G a2⟩
 have UY:Fn l.prog w K mg base 2 "is_code" ["thing"] (kR K bV):=⟨f3,_,Bg F3 T rh Iv,b3,k3,Jj X G a3⟩
 have Nd:Fn l.prog w K mg base 1 "rest_of" ["one", "other"] (tj):=⟨f4,_,HJ F4 T,b4,k4,Jj X G a4⟩
 have Rv:Fn l.prog w K mg base 1 "is_number" ["thing"] (wM K):=⟨f5,_,DN F5 T,b5,k5,Jj X G a5⟩
 have UG:Fn l.prog w K mg base 3 "is_entry" ["thing"] (kR K bq):=⟨f6,_,yo F6 T Vc UY,b6,k6,Jj X G a6⟩
 have RZ:Fn l.prog w K mg base 4 "is_book" ["thing"] (oB K):=⟨f7,_,Ah F7 T UG,b7,k7,Jj X G a7⟩
 have Xp:Fn l.prog w K mg base 2 "clash" ["book"] (sH K):=⟨f8,_,ML F8 T Nd,b8,k8,Jj X G a8⟩
 have Xh:Fn l.prog w K mg base 3 "free" ["book"] (xX K):=⟨f9,_,F0 F9 T Xp,b9,k9,Jj X G a9⟩
 have Vp:Fn l.prog w K mg base 5 "is_free_book_of" ["thing", "names"] (DB K):=⟨Rh,_,L6 OT T kI RZ Xh,ZB,Ot,Jj X G R7⟩
 have R5:Fn l.prog w K mg base 1 "far_is_shorter" ["kinds", "near", "far"] (Cq K):=⟨Q0,_,Kz O2 T cA ja hJ,Zr,Zd,Jj X G S5⟩
 have YL:Fn l.prog w K mg base 6 "first_wrong" ["kinds", "spots", "sizes", "near", "far"] (KY K):=⟨UU,_,OW NV T XE Vp Rv R5,XD,XH,Jj X G S6⟩
 have OI:Fn l.prog w K mg base 1 "two_to" ["power"] (oS):=⟨SJ,_,KA NY T,Zv,Bz,Jj X G Vl⟩
 have MS:Fn l.prog w K mg base 1 "figures_of" ["number", "many"] (oW):=⟨RS,_,Ln Pl T,XJ,YZ,Jj X G Sa⟩
 have ZM:Fn l.prog w K mg base 2 "is_reached" ["distance", "figures"] (Kl):=⟨Rk,_,O5 MJ T OI,Zi,Z1,Jj X G TB⟩
 have Zb:zM l.prog w K mg base 3 "put_distance" ["distance", "figures"] (L4 cj):=⟨JT,_,OX Oo T nB nq oC oE ZM OI MS,Xa,YF,Jj X G RI⟩
 have ZC:zM l.prog w K mg base 4 "put_part" ["form", "part", "value"] (Lh K bJ cj):=⟨QY,_,Pu NQ T MF cA dA hZ fq MS Zb,ZE,XQ,Jj X G Rq⟩
 have X3:zM l.prog w K mg base 5 "put_bare" ["form", "bare"] (Ll K bJ cj):=⟨T5,_,ON Oq T MF cA NS ZC,YH,Zk,Jj X G SE⟩
 have Vi:Fn l.prog w K mg base 5 "put_bare" ["form", "bare"] (Dq K bJ):=zM.calm X3 (fun _ _ _ _ h=>LQ h)
 have XA:Fn l.prog w K mg base 1 "bare_of" ["row", "far", "distance"] (Ks K):=⟨UA,_,GP Ov T ja hJ,YB,Zu,Jj X G Su⟩
 have Xf:Fn l.prog w K mg base 6 "row_size" ["form", "row", "far"] (KJ K bJ):=⟨UB,_,Gb PJ T Vi XA,YE,Zf,Jj X G Si⟩
 have XS:Fn l.prog w K mg base 7 "row_sizes" ["form", "program"] (Lg K bJ):=⟨Vs,_,GV Oe T Xf,ZD,ZO,Jj X G Tj⟩
 have ZP:Fn l.prog w K mg base 1 "places_with" ["sizes", "fars"] (Kt K):=⟨S9,_,GB MV T,WR,Z0,Jj X G Ry⟩
 have Xv:Fn l.prog w K mg base 8 "places_by" ["form", "program", "fars"] (K3 K bJ):=⟨Vk,_,HN MR T XS ZP,Xk,Zz,Jj X G T7⟩
 have JN:Fn l.prog w K mg base 1 "_law_begin" ["_law_script"] (tD K):=⟨Ro,_,DT Oi T,Xx,WM,Jj X G TY⟩
 have OY:Fn l.prog w K mg base 1 "_law_take" ["_law_state", "_law_many"] (xP):=⟨Tb,_,HY PD T,ZS,ZL,Jj X G TN⟩
 have Mv:Fn l.prog w K mg base 1 "_law_take" ["_law_state", "_law_many"] (ua):=Fn.imp OY (fun _ _ _ _ h=>Fs h)
 have MY:∀n:Nat,Fn l.prog w K mg base (n+0) "_law_same" ["_law_found", "_law_due"] (sT K n):=fun n=>by
  induction n with
  | zero=>exact⟨Qo,_,⟨fun vs H Q E h=>absurd h (by rintro⟨_,_,_,_,_,_,z,_⟩;exact absurd z (Nat.not_lt_zero _)),fun A outer s H args us vs Q E _ _ _ _ h=>absurd h (by rintro⟨_,_,_,_,_,_,z,_⟩;exact absurd z (Nat.not_lt_zero _))⟩,Ws,We,Jj X G Qp⟩
  | succ n ih=>exact⟨Qo,_,GY Oy T ih,Ws,We,Jj X G Qp⟩
 have MU:Fn l.prog w K mg base 2 "_law_mixed" ["_law_state", "_law_some"] (yQ K):=⟨Q1,_,DG N6 T Mv,XT,YY,Jj X G Tl⟩
 have RY:Fn l.prog w K mg base 3 "_law_codes" ["_law_state", "_law_many", "_law_most"] (EO):=⟨RP,_,Kn N1 T Mv MU,WE,Xw,Jj X G Tw⟩
 have Lu:Fn l.prog w K mg base 1 "_law_kinds" [] (oA aE):=⟨R4,_,Ct Oa T,Xe,X8,Jj X G TC⟩
 have DZ:Fn l.prog w K mg base 1 "_law_sizes" [] (oA bt):=⟨Sn,_,CU OD T,YW,W8,Jj X G Sv⟩
 have TK:Fn l.prog w K mg base 4 "_law_parts" ["_law_state"] (EH K):=⟨RX,_,D0 O9 T cA Lu DZ Mv MU RY,YT,WH,Jj X G SG⟩
 have WI:zM l.prog w K mg base 9 "_law_form" ["_law_parts_here"] (Lb K bJ cM):=⟨RT,_,MP Pr T W9 wD (MZ (P:=l.prog) (w:=w) (mg:=mg) (base:=base) yH T MF nJ oY o7 nK YL) KM,YO,ZJ,Jj X G RB⟩
 have T1:Fn l.prog w K mg base 9 "_law_form" ["_law_parts_here"] (E2 K bJ):=zM.calm WI (fun _ _ _ _ h=>KW h)
 have OK:Fn l.prog w K mg base 1 "_law_figures" ["_law_number", "_law_many"] (oW):=⟨RC,_,Ho O4 T,WL,X4,Jj X G TU⟩
 have N9:Fn l.prog w K mg base 1 "_law_power" ["_law_many"] (oS):=⟨Ru,_,FW MK T,X1,WV,Jj X G SV⟩
 have S4:Fn l.prog w K mg base 1 "_law_far_word" ["_law_word"] (wG):=⟨Vy,_,Hb NF T,YN,Zc,Jj X G Vb⟩
 have Zn:Fn l.prog w K mg base 2 "_law_put" ["_law_parts_here", "_law_bare_here"] (Mh K):=⟨QU,_,PQ NB T cA DZ OK N9 S4,YX,W0,Jj X G UL⟩
 have W7:Fn l.prog w K mg base 2 "_law_row" ["_law_state", "_law_many", "_law_number"] (xQ K):=⟨UK,_,Ha O7 T Mv,YK,W3,Jj X G Q4⟩
 have YM:Fn l.prog w K mg base 3 "_law_program" ["_law_state", "_law_most"] (wJ K):=⟨RA,_,FG Pj T Mv W7,XB,Za,Jj X G UP⟩
 have XF:Fn l.prog w K mg base 1 "_law_bare" ["_law_row_here", "_law_distance", "_law_far"] (wZ K):=⟨Tr,_,GQ OA T,XG,ZW,Jj X G TQ⟩
 have WA:Fn l.prog w K mg base 3 "_law_places" ["_law_parts_here", "_law_program_here", "_law_fars"] (xf K):=⟨SO,_,HX OC T Zn XF,XU,ZQ,Jj X G Rr⟩
 exact LJ XR T JN Mv TK T1 YM WA Xv (MY 8)
theorem walk {l:PySem.W.OpenLaw}{q:Program}{loose:List Str}{XP:(Str->Option Value)->Heap->Prop}{YP:World->Heap->Prop}{d:DefRec}{K:Params->Ja}(hn:l.most=some 63)(Nf:d.params.defaults=[])
  (hY:∀(w:World) (h:Heap),YP w h->(K w.params).In h)
  (F:∀(w:World) (mg:Str->Option Value) (fa:Addr) (h:Heap),(K w.params).In h->h.Ns mainGlobals mg->mg d.name=some (.ref fa) ->
   ∃fd:FuncData,(∀(s:Shared) (u:Value),BindsTo s fd ⟨[u],[]⟩ [("_law_script",u)])/\∀base:Heap,(K w.params).In base->base.Ns mainGlobals mg->bh l.prog w (K w.params) mg base eP 10 fa fd ["_law_script"] (yZ (K w.params))) :
  PySem.W.WalkO q loose XP YP l.row.toRowW d [] (fun f vs=>PySem.call f vs):=
 L2.GR (n:=63) (k:=10) (x := "_law_script") (CX:=fun _=>eP) (sp:=fun w=>yZ (K w.params)) hn (by decide) Nf ⟨rfl,by decide,by decide,rfl⟩ hY F (fun _ _ a ns hl _ hS=>⟨a,ns,rfl,hS,hl,fun _=>rfl⟩) fun _ _ _ _ _ z=>z
end Z
open PySem PySem.W PyProof.Rows L2
set_option maxRecDepth 100000 in
set_option maxHeartbeats 0 in
theorem PySem.Challenge.cw_oddlong_k36_places_by_fars_holds : PySem.Challenge.rw_oddlong_k36_places_by_fars.Holds := by
  refine Z.FA ?hw ?hc
  (case hw => w_witness2)
  k_fill
  refine Z.walk (l := PySem.Challenge.rw_oddlong_k36_places_by_fars) rfl rfl (fun w h Y => Y) ?F
  case F =>
    intro w mg fa h KX G hmg
    refine' Z.all_mk KX G hmg ?a1 ?F1 ?a2 ?F2 ?a3 ?F3 ?a4 ?F4 ?a5 ?F5 ?a6 ?F6 ?a7 ?F7 ?a8 ?F8 ?a9 ?F9 ?R7 ?OT ?S5 ?O2 ?S6 ?NV ?Vl ?NY ?Sa ?Pl ?TB ?MJ ?RI ?Oo ?Rq ?NQ ?SE ?Oq ?Su ?Ov ?Si ?PJ ?Tj ?Oe ?Ry ?MV ?T7 ?MR ?TY ?Oi ?TN ?PD ?Qp ?Oy ?Tl ?N6 ?Tw ?N1 ?TC ?Oa ?Sv ?OD ?SG ?O9 ?RB ?Pr ?TU ?O4 ?SV ?MK ?Vb ?NF ?UL ?NB ?Q4 ?O7 ?UP ?Pj ?TQ ?OA ?Rr ?OC ?Tu ?Th ?S2 ?Sq ?iC ?lQ ?lO ?tu ?Vt ?Vn ?RK ?Qe ?QE ?QN ?RG ?Tc ?UR ?Sj ?Qz ?QI ?QO ?S3 ?Sw ?Vv ?Qm ?Qb ?Oj ?QQ ?R0 ?tw ?xS ?xH ?sO ?yd ?wg ?ot ?sA ?rq ?pB ?sC ?tO ?rB ?xO ?xE ?mW ?tT ?sU ?ox ?rK ?tF ?oO ?rJ ?rz ?iP ?jM ?jZ ?iV ?jU ?jG ?nk ?rG ?tQ ?iZ ?i8 ?mQ ?oX ?lG ?kM ?nO ?o9 ?nZ ?oo ?oZ ?mL ?oN ?ll ?kT ?oM ?om ?nD ?mT ?nN ?KQ ?Le ?K1 ?Lf ?JZ ?L5 ?ju ?jv ?jT ?lJ ?mS ?rj ?sJ ?rZ ?rT ?sr ?y0 ?y1 ?z0 ?z1 ?z2 ?z3 ?z4 ?z5 ?z6 ?z7 ?z8 ?z9 ?T2 ?R9 ?R8 ?Tt ?UM ?RR
    (case a1 => k_is); (case F1 => (refine' aU ?l ?c ?k; (case l => k_is); (case c => k_is); (case k => k_is))); (case a2 => k_is); (case F2 => (refine' aU ?l ?c ?k; (case l => k_is); (case c => k_is); (case k => k_is))); (case a3 => k_is); (case F3 => (refine' aU ?l ?c ?k; (case l => k_is); (case c => k_is); (case k => k_is))); (case a4 => k_is); (case F4 => (refine' aU ?l ?c ?k; (case l => k_is); (case c => k_is); (case k => k_is)))
    (case a5 => k_is); (case F5 => (refine' aU ?l ?c ?k; (case l => k_is); (case c => k_is); (case k => k_is))); (case a6 => k_is); (case F6 => (refine' aU ?l ?c ?k; (case l => k_is); (case c => k_is); (case k => k_is))); (case a7 => k_is); (case F7 => (refine' aU ?l ?c ?k; (case l => k_is); (case c => k_is); (case k => k_is))); (case a8 => k_is); (case F8 => (refine' aU ?l ?c ?k; (case l => k_is); (case c => k_is); (case k => k_is)))
    (case a9 => k_is); (case F9 => (refine' aU ?l ?c ?k; (case l => k_is); (case c => k_is); (case k => k_is))); (case R7 => k_is); (case OT => (refine' aU ?l ?c ?k; (case l => k_is); (case c => k_is); (case k => k_is))); (case S5 => k_is); (case O2 => (refine' aU ?l ?c ?k; (case l => k_is); (case c => k_is); (case k => k_is))); (case S6 => k_is); (case NV => (refine' aU ?l ?c ?k; (case l => k_is); (case c => k_is); (case k => k_is)))
    (case Vl => k_is); (case NY => (refine' aU ?l ?c ?k; (case l => k_is); (case c => k_is); (case k => k_is))); (case Sa => k_is); (case Pl => (refine' aU ?l ?c ?k; (case l => k_is); (case c => k_is); (case k => k_is))); (case TB => k_is); (case MJ => (refine' aU ?l ?c ?k; (case l => k_is); (case c => k_is); (case k => k_is))); (case RI => k_is); (case Oo => (refine' aU ?l ?c ?k; (case l => k_is); (case c => k_is); (case k => k_is)))
    (case Rq => k_is); (case NQ => (refine' aU ?l ?c ?k; (case l => k_is); (case c => k_is); (case k => k_is))); (case SE => k_is); (case Oq => (refine' aU ?l ?c ?k; (case l => k_is); (case c => k_is); (case k => k_is))); (case Su => k_is); (case Ov => (refine' aU ?l ?c ?k; (case l => k_is); (case c => k_is); (case k => k_is))); (case Si => k_is); (case PJ => (refine' aU ?l ?c ?k; (case l => k_is); (case c => k_is); (case k => k_is)))
    (case Tj => k_is); (case Oe => (refine' aU ?l ?c ?k; (case l => k_is); (case c => k_is); (case k => k_is))); (case Ry => k_is); (case MV => (refine' aU ?l ?c ?k; (case l => k_is); (case c => k_is); (case k => k_is))); (case T7 => k_is); (case MR => (refine' aU ?l ?c ?k; (case l => k_is); (case c => k_is); (case k => k_is))); (case TY => k_is); (case Oi => (refine' aU ?l ?c ?k; (case l => k_is); (case c => k_is); (case k => k_is)))
    (case TN => k_is); (case PD => (refine' aU ?l ?c ?k; (case l => k_is); (case c => k_is); (case k => k_is))); (case Qp => k_is); (case Oy => (refine' aU ?l ?c ?k; (case l => k_is); (case c => k_is); (case k => k_is))); (case Tl => k_is); (case N6 => (refine' aU ?l ?c ?k; (case l => k_is); (case c => k_is); (case k => k_is))); (case Tw => k_is); (case N1 => (refine' aU ?l ?c ?k; (case l => k_is); (case c => k_is); (case k => k_is)))
    (case TC => k_is); (case Oa => (refine' aU ?l ?c ?k; (case l => k_is); (case c => k_is); (case k => k_is))); (case Sv => k_is); (case OD => (refine' aU ?l ?c ?k; (case l => k_is); (case c => k_is); (case k => k_is))); (case SG => k_is); (case O9 => (refine' aU ?l ?c ?k; (case l => k_is); (case c => k_is); (case k => k_is))); (case RB => k_is); (case Pr => (refine' aU ?l ?c ?k; (case l => k_is); (case c => k_is); (case k => k_is)))
    (case TU => k_is); (case O4 => (refine' aU ?l ?c ?k; (case l => k_is); (case c => k_is); (case k => k_is))); (case SV => k_is); (case MK => (refine' aU ?l ?c ?k; (case l => k_is); (case c => k_is); (case k => k_is))); (case Vb => k_is); (case NF => (refine' aU ?l ?c ?k; (case l => k_is); (case c => k_is); (case k => k_is))); (case UL => k_is); (case NB => (refine' aU ?l ?c ?k; (case l => k_is); (case c => k_is); (case k => k_is)))
    (case Q4 => k_is); (case O7 => (refine' aU ?l ?c ?k; (case l => k_is); (case c => k_is); (case k => k_is))); (case UP => k_is); (case Pj => (refine' aU ?l ?c ?k; (case l => k_is); (case c => k_is); (case k => k_is))); (case TQ => k_is); (case OA => (refine' aU ?l ?c ?k; (case l => k_is); (case c => k_is); (case k => k_is))); (case Rr => k_is); (case OC => (refine' aU ?l ?c ?k; (case l => k_is); (case c => k_is); (case k => k_is)))
    (case Tu => k_is); (case Th => k_is); (case S2 => k_is); (case Sq => k_is); (case iC => k_is); (case lQ => k_is); (case lO => k_is); (case tu => k_is)
    (case Vt => k_is); (case Vn => k_is); (case RK => k_is); (case Qe => k_is); (case QE => k_is); (case QN => k_is); (case RG => k_is); (case Tc => k_is)
    (case UR => k_is); (case Sj => repeat (first | exact Paired.nil | refine Paired.cons ⟨_, rfl⟩ ?_)); (case Qz => k_is); (case QI => k_is); (case QO => repeat (first | exact Paired.nil | refine Paired.cons ⟨_, rfl⟩ ?_)); (case S3 => k_is); (case Sw => k_is); (case Vv => repeat (first | exact Paired.nil | refine Paired.cons ⟨_, rfl⟩ ?_))
    (case Qm => k_is); (case Qb => k_is); (case Oj => repeat (first | exact trivial | refine ⟨⟨_, _, rfl, rfl⟩, ?_⟩)); (case QQ => rfl); (case R0 => decide); (case tw => k_is); (case xS => k_is); (case xH => repeat (first | exact Paired.nil | refine Paired.cons ⟨_, rfl⟩ ?_))
    (case sO => k_is); (case yd => k_is); (case wg => repeat (first | exact Paired.nil | refine Paired.cons ⟨_, rfl⟩ ?_)); (case ot => k_is); (case sA => k_is); (case rq => repeat (first | exact Paired.nil | refine Paired.cons ⟨_, rfl⟩ ?_)); (case pB => k_is); (case sC => k_is)
    (case tO => repeat (first | exact Paired.nil | refine Paired.cons ⟨_, rfl⟩ ?_)); (case rB => k_is); (case xO => k_is); (case xE => repeat (first | exact Paired.nil | refine Paired.cons ⟨_, rfl⟩ ?_)); (case mW => k_is); (case tT => k_is); (case sU => repeat (first | exact Paired.nil | refine Paired.cons ⟨_, rfl⟩ ?_)); (case ox => k_is)
    (case rK => k_is); (case tF => repeat (first | exact Paired.nil | refine Paired.cons ⟨_, rfl⟩ ?_)); (case oO => k_is); (case rJ => k_is); (case rz => repeat (first | exact Paired.nil | refine Paired.cons ⟨_, rfl⟩ ?_)); (case iP => k_is); (case jM => k_is); (case jZ => repeat (first | exact Paired.nil | refine Paired.cons ⟨_, rfl⟩ ?_))
    (case iV => k_is); (case jU => k_is); (case jG => repeat (first | exact Paired.nil | refine Paired.cons ⟨_, rfl⟩ ?_)); (case nk => k_is); (case rG => k_is); (case tQ => repeat (first | exact Paired.nil | refine Paired.cons ⟨_, rfl⟩ ?_)); (case iZ => k_is); (case i8 => k_exc)
    (case mQ => k_is); (case oX => k_is); (case lG => k_is); (case kM => k_is); (case nO => k_is); (case o9 => k_is); (case nZ => k_is); (case oo => k_is)
    (case oZ => k_is); (case mL => k_is); (case oN => k_is); (case ll => k_is); (case kT => k_is); (case oM => k_is); (case om => k_is); (case nD => k_is)
    (case mT => k_is); (case nN => k_is); (case KQ => k_is); (case Le => k_is); (case K1 => k_is); (case Lf => k_is); (case JZ => k_is); (case L5 => k_is)
    (case ju => k_is); (case jv => k_is); (case jT => k_is); (case lJ => k_is); (case mS => k_is); (case rj => k_is); (case sJ => k_is); (case rZ => k_is)
    (case rT => k_is); (case sr => k_is); (case y0 => k_is); (case y1 => k_is); (case z0 => k_is); (case z1 => k_is); (case z2 => k_is); (case z3 => k_is)
    (case z4 => k_is); (case z5 => k_is); (case z6 => k_is); (case z7 => k_is); (case z8 => k_is); (case z9 => k_is); (case T2 => k_is); (case R9 => k_is)
    (case R8 => k_is); (case Tt => k_is); (case UM => k_is); (case RR => k_is)
