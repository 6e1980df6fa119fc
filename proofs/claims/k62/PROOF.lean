import PyProof.Rows.All
import Wide.All
import OpenK.AllK
import Wide.FinOn
import PyProof.EqAt
import PyProof.EqKinds
import PyProof.TupleCall
import PyProof.DictCompW
import PyProof.Rows.SortWalk
import OpenK.KRaise
import PyProof.ExcClass2
import KE.KTryMore
import KE.KSortTup
import KE.KIsAll
import PyProof.ListRange
import PyProof.StrBlock2
import PyProof.Rows.SetFrom
import PyProof.SetRoads
import PyProof.ReprRoads
import PyProof.CallStr
import PyProof.Rows.SortStr
import KE.KSortKey
import KE.KMinKey
import PyProof.Rows.Range3
import PyProof.Rows.IntBool
import KE.KRevIter
import PyProof.MeetsSeq
import PyProof.MinMaxWalk
import PyProof.SliceStr2
import PyProof.P3Eq
import PyProof.Rows.StrLen
import PyProof.Rows.StrCase
import PyProof.InstStoreFacts
import PyProof.ExcInit
import PyProof.StrCalls
import PyProof.DictIter
import PyProof.DictWalks
import PyProof.AutoIntG2
import PyProof.Rows.TupDisplay
import KE.KDictList
import PyProof.DictItems
import PyProof.RulesTry
import PyProof.EnumMake
import PyProof.Draws
import PyProof.FactsAll.set_1
import PyProof.IsiH_list
import KE.KDictOf
import PyProof.DictUpdate
import Lean
import PySem.Challenge.RW_oddlong_k62_greatest_delay
local macro_rules | `(tactic| omega) => `(tactic| lia)
set_option Elab.async false
set_option linter.all false
set_option maxRecDepth 100000
open List renaming length_map → Ja, mem_singleton → Jb, getElem?_eq_getElem → Jf, length_append → Jg, map_append → Jh, mem_append_right → Ji, mem_append → Jj, size_toArray → Jl, getElem?_map → Jn, mem_cons_of_mem → Jo, mem_cons_self → Jp, replicate → Jt, getElem?_eq_some_iff → Ju, mem_map → Jv, getElem_mem → Jw, mem_append_left → Jx, mem_map_of_mem → Jz, take_length → J0, length_cons → J1, length_take → J3, pairwise_append → J9, getElem?_append_right → Ua, length → Ue, mem_cons → Ug, getElem?_append_left → Uh, map_cons → Ui, length_pos_iff → Ul, append_assoc → Uo, lookup_cons → Uq, append_nil → Ut, length_drop → Uw, eq_nil_of_length_eq_zero → Ux, Perm → U0, length_replicate → U1, mem_iff_getElem? → U2, nodup_cons → U4, append_cancel_left → U5, replicate_succ → U8, eraseIdx_eq_take_drop_succ → Ya, mem_iff_getElem → Yc, pairwise_iff_getElem → Yg, toList_toArray → Yh, perm_append_comm → Yi, take_append_drop → Yj, length_filter_le → Yk, map_map → Ym, getElem?_replicate → Yn, mem_of_getElem? → Yo, getD_eq_getElem?_getD → Yq, length_nil → Ys, take_sublist → Yy, length_range → Y1, dropLast_concat_getLast → Y3, take_of_length_le → Y4, mem_reverse → Y5, filter_cons → Y6, nodup_iff_pairwise_ne → Y8, mem_filter → Y9, drop_sublist → We, range → Wh
open PySem.Heap renaming get?_push_of_some → Jc, lt_size → Jm, get?_push_size → Js, get?_update_other → Uj, get?_update_self → Us, SameBut → Yd, get?_update_ne → Yr, size_push → Wg
open PySem.W renaming Frag → Jd, nsIn → J7, mg_none_of → Ud, mg_of → Uv, kia_one → U7, fnOf → Wi
open Nat renaming le_refl → Je, le_trans → Jq, lt_of_lt_of_le → Jy, ne_of_lt → J5, lt_of_le_of_lt → Uc, lt_of_le_of_ne → Uk, zero_le → Um, le_add_right → Ur, le_of_lt → Uy, add_le_add_left → U3, lt_irrefl → U6, le_of_eq → Yp, le_succ → Yt, min_eq_left → Yu, le_of_not_lt → Yv, le_sub_one_of_lt → Yw, sub_one_lt_of_le → Yx, add_sub_of_le → Yz, add_sub_cancel_left → Y0, le_antisymm → Y2, ne_of_gt → Wb, lt_succ_of_lt → Wc, le_of_lt_succ → Wd, lt_of_succ_lt → Wf
open Bool renaming false_ne_true → Jk, false_eq_true → J6, and_eq_true → Ye
open Array renaming length_toList → Jr, getElem?_eq_getElem → J8, getElem?_toList → Ub, toList_append → Uu, toList_push → U9, getElem?_eq_none → Yf, perm_iff_toList_perm → Y7, size_push → Wa
open Int renaming toNat_natCast → Uz, le_refl → Yb, le_of_lt → Yl
namespace L2
set_option genSizeOf false
set_option genInjectivity false
inductive bV {α0 α1:Type}(P: α0 -> α1->Prop):Prop|mk (x0: α0) (x1: α1) (h:P x0 x1):bV P
inductive dR {α0 α1 α2:Type}(P: α0 -> α1 -> α2->Prop):Prop|mk (x0: α0) (x1: α1) (x2: α2) (h:P x0 x1 x2):dR P
inductive pO {α0 α1 α2 α3:Type}(P: α0 -> α1 -> α2 -> α3->Prop):Prop|mk (x0: α0) (x1: α1) (x2: α2) (x3: α3) (h:P x0 x1 x2 x3):pO P
inductive xU {α0 α1 α2 α3 α4:Type}(P: α0 -> α1 -> α2 -> α3 -> α4->Prop):Prop|mk (x0: α0) (x1: α1) (x2: α2) (x3: α3) (x4: α4) (h:P x0 x1 x2 x3 x4):xU P
inductive BU {α0 α1 α2 α3 α4 α5:Type}(P: α0 -> α1 -> α2 -> α3 -> α4 -> α5->Prop):Prop|mk (x0: α0) (x1: α1) (x2: α2) (x3: α3) (x4: α4) (x5: α5) (h:P x0 x1 x2 x3 x4 x5):BU P
set_option genSizeOf true
set_option genInjectivity true
class ae (P:Prop) (F:outParam (Prop->Prop)):Prop where
 el:P->∀G:Prop,F G->G
theorem ae.go {P:Prop}{F:Prop->Prop}[i:ae P F]{G:Prop}(k:F G):P->G:=fun h=>i.el h G k
noncomputable instance (priority:=low) elimBase {P:Prop}:ae P (fun G=>P->G):=⟨fun h _ k=>k h⟩
noncomputable instance DR {α:Sort u} {P: α->Prop} {F: α->Prop->Prop} [h:∀x,ae (P x) (F x)]:ae (∃x,P x) (fun G=>∀x,F x G):=⟨fun⟨x,hx⟩ G k=>(h x).el hx G (k x)⟩
noncomputable instance Ds {A B:Prop} {F:Prop->Prop} [h:ae B F]:ae (A/\B) (fun G=>A->F G):=⟨fun⟨a,b⟩ G k=>h.el b G (k a)⟩
noncomputable instance C4 {α0 α1:Type} {P: α0 -> α1->Prop} {F: α0 -> α1->Prop->Prop} [i:∀x0 x1,ae (P x0 x1) (F x0 x1)]:ae (bV P) (fun G=>∀x0 x1,F x0 x1 G):=⟨fun⟨x0,x1,h⟩ G k=>(i x0 x1).el h G (k x0 x1)⟩
noncomputable instance C8 {α0 α1 α2:Type} {P: α0 -> α1 -> α2->Prop} {F: α0 -> α1 -> α2->Prop->Prop} [i:∀x0 x1 x2,ae (P x0 x1 x2) (F x0 x1 x2)]:ae (dR P) (fun G=>∀x0 x1 x2,F x0 x1 x2 G):=⟨fun⟨x0,x1,x2,h⟩ G k=>(i x0 x1 x2).el h G (k x0 x1 x2)⟩
noncomputable instance C1 {α0 α1 α2 α3:Type} {P: α0 -> α1 -> α2 -> α3->Prop} {F: α0 -> α1 -> α2 -> α3->Prop->Prop} [i:∀x0 x1 x2 x3,ae (P x0 x1 x2 x3) (F x0 x1 x2 x3)]:ae (pO P) (fun G=>∀x0 x1 x2 x3,F x0 x1 x2 x3 G):=⟨fun⟨x0,x1,x2,x3,h⟩ G k=>(i x0 x1 x2 x3).el h G (k x0 x1 x2 x3)⟩
noncomputable instance C0 {α0 α1 α2 α3 α4:Type} {P: α0 -> α1 -> α2 -> α3 -> α4->Prop} {F: α0 -> α1 -> α2 -> α3 -> α4->Prop->Prop} [i:∀x0 x1 x2 x3 x4,ae (P x0 x1 x2 x3 x4) (F x0 x1 x2 x3 x4)]:ae (xU P) (fun G=>∀x0 x1 x2 x3 x4,F x0 x1 x2 x3 x4 G):=⟨fun⟨x0,x1,x2,x3,x4,h⟩ G k=>(i x0 x1 x2 x3 x4).el h G (k x0 x1 x2 x3 x4)⟩
noncomputable instance CW {α0 α1 α2 α3 α4 α5:Type} {P: α0 -> α1 -> α2 -> α3 -> α4 -> α5->Prop} {F: α0 -> α1 -> α2 -> α3 -> α4 -> α5->Prop->Prop} [i:∀x0 x1 x2 x3 x4 x5,ae (P x0 x1 x2 x3 x4 x5) (F x0 x1 x2 x3 x4 x5)]:ae (BU P) (fun G=>∀x0 x1 x2 x3 x4 x5,F x0 x1 x2 x3 x4 x5 G):=⟨fun⟨x0,x1,x2,x3,x4,x5,h⟩ G k=>(i x0 x1 x2 x3 x4 x5).el h G (k x0 x1 x2 x3 x4 x5)⟩
open PySem PySem.Spec PyProof.Rows
noncomputable abbrev Key:=Sum Int Str
noncomputable def kf:Key->Value->Bool
 | .inl k,v=>Value.isInt k v
 | .inr x,v=>Value.isStrOf x v
noncomputable def Ea (w:World):Key->Int
 | .inl k=>hashInt k
 | .inr x=>hashStr w x
theorem bf:∀{k:Key} {v:Value},kf k v=true->(∃i t,k=Sum.inl i/\v=Value.int i t)∨(∃x t,k=Sum.inr x/\v=Value.str x t)
 | .inl i,v,h=>by
  obtain⟨t,e⟩:=Value.isInt_shape (k:=i) (v:=v) h
  exact .inl ⟨i,t,rfl,e⟩
 | .inr x,v,h=>by
  obtain⟨t,e⟩:=Value.isStrOf_shape (x:=x) (v:=v) h
  exact .inr ⟨x,t,rfl,e⟩
theorem qH (i:Int)(t:Tok):kf (.inl i) (.int i t)=true:=by simp[kf,Value.isInt]
theorem qS (x:Str)(t:Tok):kf (.inr x) (.str x t)=true:=by simp[kf,Value.isStrOf]
theorem yE (a b:Int):decide ((Sum.inl a:Key)=Sum.inl b)=(a==b):=by
 by_cases e:a=b
 ·subst e;simp
 ·have h:¬(Sum.inl a:Key)=Sum.inl b:=fun q=>e (Sum.inl.inj q)
  rw[decide_eq_false h]
  exact(beq_eq_false_iff_ne.mpr e).symm
theorem yw (a b:Str):decide ((Sum.inr a:Key)=Sum.inr b)=decide (a=b):=by
 by_cases e:a=b
 ·subst e;simp
 ·have h:¬(Sum.inr a:Key)=Sum.inr b:=fun q=>e (Sum.inr.inj q)
  rw[decide_eq_false h,decide_eq_false e]
theorem yJ (a:Int)(b:Str):decide ((Sum.inl a:Key)=Sum.inr b)=false:=decide_eq_false (fun q=>nomatch q)
theorem zX (a:Str)(b:Int):decide ((Sum.inr a:Key)=Sum.inl b)=false:=decide_eq_false (fun q=>nomatch q)
noncomputable def aP (prog:Program)(w:World):PySem.KeyKind prog w Key where
 is:=kf
 hash:=Ea w
 inj:=fun v a b ha hb=>by
  rcases bf ha with ⟨i,t,rfl,rfl⟩|⟨x,t,rfl,rfl⟩
  ·rcases bf hb with ⟨j,u,rfl,e⟩|⟨y,u,rfl,e⟩
   ·injection e with e1 _;rw[e1]
   ·exact nomatch e
  ·rcases bf hb with ⟨j,u,rfl,e⟩|⟨y,u,rfl,e⟩
   ·exact nomatch e
   ·injection e with e1 _;rw[e1]
 byValue:=fun k v h=>by
  rcases bf h with ⟨i,t,rfl,rfl⟩|⟨x,t,rfl,rfl⟩<;>rfl
 pyHash:=fun hv h=>by
  rcases bf hv with ⟨i,t,rfl,rfl⟩|⟨x,t,rfl,rfl⟩
  ·exact wpAny_pyHash_int h
  ·exact wpAny_pyHash_str h
 eqBool:=fun hu hv h=>by
  rcases bf hu with ⟨i,t,rfl,rfl⟩|⟨x,t,rfl,rfl⟩
  ·rcases bf hv with ⟨j,u,rfl,rfl⟩|⟨y,u,rfl,rfl⟩
   ·rw[yE] at h;exact wpAny_eqBool_int h
   ·rw[yJ] at h;exact SeqAt.EqAt.int_str i t y u _ _ _ _ h
  ·rcases bf hv with ⟨j,u,rfl,rfl⟩|⟨y,u,rfl,rfl⟩
   ·rw[zX] at h;exact SeqAt.EqAt.str_int x t j u _ _ _ _ h
   ·rw[yw] at h;exact wpAny_eqBool_str h
 «strs»:=fun k x t v h=>by
  rcases bf h with ⟨i,u,rfl,e⟩|⟨y,u,rfl,e⟩
  ·exact nomatch e
  ·injection e with e1 _
   subst e1
   cases v<;>rfl
theorem mn (prog:Program)(w:World)(i:Int)(t:Tok):(aP prog w).is (.inl i) (.int i t)=true:=qH i t
theorem mf (prog:Program)(w:World)(x:Str)(t:Tok):(aP prog w).is (.inr x) (.str x t)=true:=qS x t
inductive V where
 | non|bl (b:Bool)|int (i:Int)|str (x:Str)|byt (b:Array UInt8)|flt (b:UInt64)|ref (a:Addr)|ty (n:String)
 deriving DecidableEq
noncomputable def RelV:V->Value->Prop
 | .non,u=>u=Value.none
 | .bl b,u=>u=Value.bool b
 | .int i,u=>∃t,u=Value.int i t
 | .str x,u=>∃t,u=Value.str x t
 | .byt b,u=>∃t,u=Value.bytes b t
 | .flt b,u=>∃t,u=Value.float b t
 | .ref a,u=>u=Value.ref a
 | .ty n,u=>u=Value.type n
noncomputable abbrev Vals:List V->List Value->Prop:=Paired RelV
theorem Vals.length {xs:List V}{us:List Value}(r:Vals xs us):xs.length=us.length:=Paired.length r
theorem Vals.get:∀{xs:List V} {us:List Value} {i:Nat} {x:V},Vals xs us->xs[i]? = some x->∃u,us[i]? = some u/\RelV x u
 | _,_,_,_,.nil,e=>by simp at e
 | _,_,0,_,.cons r _,e=>by simp at e;subst e;exact⟨_,rfl,r⟩
 | _,_,i+1,x,.cons _ t,e=>by
  obtain⟨u,h1,h2⟩:=Vals.get (i:=i) (x:=x) t (by simpa using e)
  exact⟨u,by simpa using h1,h2⟩
theorem Vals.set {x:V}{u:Value}(r:RelV x u):∀{xs:List V} {us:List Value} (i:Nat),Vals xs us->Vals (xs.set i x) (us.set i u)
 | _,_,_,.nil =>.nil
 | _,_,0,.cons _ t =>.cons r t
 | _,_,i+1,.cons q t =>.cons q (Vals.set r i t)
theorem Vals.append {xs ys:List V}{us ws:List Value}(h:Vals xs us)(s:Vals ys ws):Vals (xs++ys) (us++ws):=by
 induction h with
 | nil=>exact s
 | cons r t ih=>exact .cons r ih
theorem Vals.take:∀{xs:List V} {us:List Value} (n:Nat),Vals xs us->Vals (xs.take n) (us.take n)
 | _,_,0,_ =>.nil
 | _,_,_+1,.nil =>.nil
 | _,_,n+1,.cons r t =>.cons r (Vals.take n t)
theorem Vals.drop:∀{xs:List V} {us:List Value} (n:Nat),Vals xs us->Vals (xs.drop n) (us.drop n)
 | _,_,0,r=>r
 | _,_,_+1,.nil =>.nil
 | _,_,n+1,.cons _ t=>Vals.drop n t
noncomputable def i6:Option V->Option Value->Prop
 | some v,some u=>RelV v u
 | none,none=>True
 | _,_=>False
noncomputable def KV {κ:Type}:List (κ×V)->List (κ×Value)->Prop:=Paired fun(p: κ×V) (q: κ×Value)=>p.1=q.1/\RelV p.2 q.2
noncomputable def kV:Key->V
 | .inl i =>.int i
 | .inr x =>.str x
inductive HO where
 | lst (xs:List V)
 | tup (xs:List V)
 | dK (kvs:List (Key×V))|dT (kvs:List (List Key×V))
 | set (S:Int->Bool) (n:Nat)
 | ins (C dx:Addr) (fs:List (Str×V))
 | own (x:Addr)
 | xd (fs:List (Str×V))
 | met (f x:Addr)
 | rng (lo hi:Int)
 | frz (o:Obj) (u:HO)
 | tbl (ps:Array Value)
 | ext (φ:Heap->Prop)
noncomputable abbrev Hp:=Addr->Option HO
noncomputable def upd (H:Hp)(a:Addr)(o:HO):Hp:=fun b=>if b=a then some o else H b
theorem aE {H:Hp}{a:Addr}{o:HO}:upd H a o a=some o:=by unfold upd;rw[if_pos rfl]
theorem aj {H:Hp}{a b:Addr}{o:HO}(h:b≠a):upd H a o b=H b:=by unfold upd;rw[if_neg h]
theorem uC {H:Hp}{a b:Addr}{o u:HO}(h:H a=some o)(h':H b=some u)(d:o≠u):a≠b:=by
 intro e;subst e;rw[h] at h';exact d (Option.some.inj h')
theorem ai {H:Hp}{a b:Addr}{o:HO}(h:H a=some o)(h':H b=none):a≠b:=by
 intro e;subst e;rw[h] at h';cases h'
section
variable (P:Program)(w:World)
noncomputable def ba (H:Hp)(h:Heap)(a:Addr):HO->Prop
 | .lst xs=>xs.length<=sizeLine/\bV fun(au:List Value) (n:Nat)=>Vals xs au/\h.get? a=some { cls := .type "list",data := .seq au.toArray n }
 | .tup xs=>xs.length<=sizeLine/\∃au:List Value,Vals xs au/\IsTup h a au.toArray
 | .dK kvs=>kvs.length<=sizeLine/\(a==sysModules)=false/\∃vs,KV kvs vs/\h.DictOf (aP P w) a vs
 | .dT kvs=>kvs.length<=sizeLine/\(a==sysModules)=false/\∃xs:List (List Key×Addr×Value),
   Paired (fun(p:List Key×V) (q:List Key×Addr×Value)=>p.1=q.1/\H q.2.1=some (.tup (p.1.map kV))/\RelV p.2 q.2.2) kvs xs /\
   dR fun o es ep=>h.get? a=some o/\o.ExactDict/\o.data = .dict es ep/\es.toList=xs.map (entryOfKey (tupleKind (aP P w)))/\(xs.map (·.1)).Nodup
 | .set S n=>h.SetOf (intKind P w) a S n
 | .ins C dx fs=>H dx=some (.own a)/\fs.length<=1000/\dx≠a/\h.get? a=some (PySem.W.instObj C dx) /\
   ∃mA,h.Ns1 dx mA/\(∀f,i6 (fs.lookup f) (mA f))/\PySem.Within mA (fs.map (·.1))
 | .own _=>∃o,h.get? a=some o
 | .xd fs=>∃mA,h.Ns1 a mA/\∀f,i6 (fs.lookup f) (mA f)
 | .rng lo hi=>dR fun t u v=>h.get? a=some { cls := .type "range",data := .fields #[.int lo t,.int hi u,.int 1 v] }
 | .frz o u=>h.get? a=some o/\ba H h a u
 | .tbl ps=>h.get? a=some { cls := .none,data := .fields ps }
 | .met f x=>h.get? a=some (PySem.W.methodObj (.ref f) (.ref x))
 | .ext φ => φ h/\(∃o,h.get? a=some o)/\∀h1 h2:Heap, φ h1->(∀o,h1.get? a=some o->h2.get? a=some o) -> φ h2
noncomputable def d6 (H:Hp)(h:Heap):Prop:=∀a o,H a=some o->ba P w H h a o
end
section
variable {P:Program}{w:World}{H H':Hp}{h h':Heap}{a:Addr}{o:HO}
theorem ba.lt (x:ba P w H h a o):a<h.objs.size:=by
 cases o with
 | lst xs=>obtain⟨_,_,_,_,e⟩:=x;exact Jm e
 | tup xs=>obtain⟨_,_,_,p⟩:=x;exact p.lt
 | dK kvs=>obtain⟨_,_,_,_,o,_,_,e,_⟩:=x;exact Jm e
 | dT kvs=>obtain⟨_,_,_,_,o,_,_,e,_⟩:=x;exact Jm e
 | set S n=>obtain⟨o,_,_,_,e,_⟩:=x;exact Jm e
 | ins C dx fs=>obtain⟨_,_,_,e,_⟩:=x;exact Jm e
 | own y=>obtain⟨_,e⟩:=x;exact Jm e
 | xd fs=>obtain⟨_,⟨_,_,_,e,_⟩,_⟩:=x;exact Jm e
 | rng lo hi=>obtain⟨_,_,_,e⟩:=x;exact Jm e
 | frz ob u=>obtain⟨e,_⟩:=x;exact Jm e
 | tbl ps=>exact Jm (show h.get? a=some _ from x)
 | met f y=>exact Jm (show h.get? a=some _ from x)
 | ext φ=>obtain⟨_,⟨_,e⟩,_⟩:=x;exact Jm e
theorem Paired.zC {α β:Type}{F G: α -> β->Prop}{l₁:List α}{l₂:List β}(h:Paired F l₁ l₂)(f:∀a b,F a b->G a b):Paired G l₁ l₂:=by
 induction h with
 | nil=>exact .nil
 | cons r t ih=>exact .cons (f _ _ r) ih
theorem Paired.imp' {α β:Type}{F G: α -> β->Prop}(f:∀a b,F a b->G a b){l₁:List α}{l₂:List β}(r:Paired F l₁ l₂):Paired G l₁ l₂:=Paired.zC r f
theorem ba.lu (x:ba P w H h a o)(k:∀b u,(b=a∨H b=some (.own a))->h.get? b=some u->h'.get? b=some u)
  (ho:∀b,H b=some (.own a)->H' b=some (.own a)) (ht:∀b xs,H b=some (.tup xs)->H' b=some (.tup xs)):ba P w H' h' a o:=by
 induction o with
 | lst xs=>obtain⟨z,au,n,r,e⟩:=x;exact⟨z,au,n,r,k _ _ (.inl rfl) e⟩
 | tup xs=>obtain⟨z,au,r,ob,e,c⟩:=x;exact⟨z,au,r,ob,k _ _ (.inl rfl) e,c⟩
 | dK kvs=>obtain⟨z,y,vs,r,ob,es,ep,e,c⟩:=x;exact⟨z,y,vs,r,ob,es,ep,k _ _ (.inl rfl) e,c⟩
 | dT kvs=>
  obtain⟨z,y,xs,r,ob,es,ep,e,c⟩:=x
  exact⟨z,y,xs,Paired.zC r fun p q z=>⟨z.1,ht _ _ z.2.1,z.2.2⟩,ob,es,ep,k _ _ (.inl rfl) e,c⟩
 | set S n=>obtain⟨ob,es,ep,t,e,c⟩:=x;exact⟨ob,es,ep,t,k _ _ (.inl rfl) e,c⟩
 | ins C dx fs=>
  obtain⟨d,z,ne,e,mA,⟨od,es,ep,e2,c⟩,r⟩:=x
  exact⟨ho _ d,z,ne,k _ _ (.inl rfl) e,mA,⟨od,es,ep,k _ _ (.inr d) e2,c⟩,r⟩
 | own y=>obtain⟨ob,e⟩:=x;exact⟨ob,k _ _ (.inl rfl) e⟩
 | xd fs=>obtain⟨mA,⟨od,es,ep,e,c⟩,r⟩:=x;exact⟨mA,⟨od,es,ep,k _ _ (.inl rfl) e,c⟩,r⟩
 | rng lo hi=>obtain⟨t,u,v,e⟩:=x;exact⟨t,u,v,k _ _ (.inl rfl) e⟩
 | frz ob u ih=>obtain⟨e,q⟩:=x;exact⟨k _ _ (.inl rfl) e,ih q⟩
 | tbl ps=>
  have e:h.get? a=some { cls := .none,data := .fields ps }:=x
  show h'.get? a=some { cls := .none,data := .fields ps }
  exact k a _ (.inl rfl) e
 | met f y=>
  have e:h.get? a=some (PySem.W.methodObj (.ref f) (.ref y)):=x
  show h'.get? a=some (PySem.W.methodObj (.ref f) (.ref y))
  exact k a _ (.inl rfl) e
 | ext φ=>obtain⟨p,⟨o,e⟩,st⟩:=x;exact⟨st _ _ p fun o q=>k _ _ (.inl rfl) q,⟨o,k _ _ (.inl rfl) e⟩,st⟩
theorem d6.lt (x:d6 P w H h)(e:H a=some o):a<h.objs.size:=(x a o e).lt
theorem d6.fresh (x:d6 P w H h)(e:h.objs.size<=a):H a=none:=by
 cases q:H a with
 | none=>rfl
 | some u=>exact absurd (Jy (x.lt q) e) (U6 _)
theorem d6.kept (x:d6 P w H h)(k:∀b u,h.get? b=some u->h'.get? b=some u):d6 P w H h':=fun a o e=>
 (x a o e).lu (fun b u _ q=>k b u q) (fun _ q=>q) fun _ _ q=>q
theorem d6.laid (x:d6 P w H h)(k:∀b u,h.get? b=some u->h'.get? b=some u)(hp:h.objs.size<=a)(new:ba P w (upd H a o) h' a o):d6 P w (upd H a o) h':=fun b u e=>by
 have hn:=x.fresh hp
 by_cases hb:b=a
 ·subst hb;rw[aE] at e;cases e;exact new
 ·rw[aj hb] at e
  exact(x b u e).lu (fun c v _ q=>k c v q) (fun c q=>by rw[aj (ai q hn)];exact q) fun c xs q=>by rw[aj (ai q hn)];exact q
end
noncomputable def Rd (H:Hp)(a:Addr)(u:HO):Prop:=H a=some u∨∃o,H a=some (.frz o u)
theorem Rd.ok {P:Program}{w:World}{H:Hp}{h:Heap}{a:Addr}{u:HO}(r:Rd H a u)(x:d6 P w H h):ba P w H h a u:=by
 rcases r with r|⟨o,r⟩
 ·exact x a u r
 ·obtain⟨_,q⟩:=x a _ r
  exact q
noncomputable def AN:Option HO->Prop
 | some (.lst _)=>True
 | some (.dK _)=>True
 | some (.dT _)=>True
 | some (.set _ _)=>True
 | some (.ins _ _ _)=>True
 | some (.ext _)=>True
 | _=>False
section
variable {P:Program}{w:World}{H:Hp}{h h':Heap}{x e:Addr}{o':HO}
theorem d6.write (ok:d6 P w H h)(mu:AN (H x))(he:e=x∨H e=some (.own x))(k:∀b u,b≠e->h.get? b=some u->h'.get? b=some u)(Aq:∃u,h'.get? e=some u)
  (new:ba P w (upd H x o') h' x o'):d6 P w (upd H x o') h':=fun b u q=>by
 have A2:∀c y,H c=some (.own y)->c≠x:=fun c y r z=>by subst z;rw[r] at mu;exact mu
 have Fx:∀c xs,H c=some (.tup xs)->c≠x:=fun c xs r z=>by subst z;rw[r] at mu;exact mu
 by_cases hb:b=x
 ·subst hb;rw[aE] at q;cases q;exact new
 ·rw[aj hb] at q
  by_cases hbe:b=e
  ·have q':H b=some (.own x):=by
    rcases he with z|z
    ·exact absurd (hbe.trans z) hb
    ·rw[hbe];exact z
   rw[q] at q';cases q'
   obtain⟨v,hv⟩:=Aq
   exact⟨v,by rw[hbe];exact hv⟩
  ·refine(ok b u q).lu (fun c v hc r=>k c v ?_ r) (fun c r=>by rw[aj (A2 c b r)];exact r) fun c xs r=>by rw[aj (Fx c xs r)];exact r
   rcases hc with rfl|hc
   ·exact hbe
   ·rintro rfl
    rcases he with z|z
    ·exact A2 c b hc z
    ·rw[hc] at z;cases z;exact hb rfl
end
structure Un (fs ex:List Addr)(H H':Hp)(h h':Heap):Prop where
 keep:∀b o,h.get? b=some o->H b=none->b∉fs->b∉ex->h'.get? b=some o
 slot:∀b o,h.get? b=some o->H b=none->b∈fs->b∉ex->∃sl,h'.get? b=some { o with slots:=sl }
 free:∀b o,h.get? b=some o->H b=none->b∉ex->H' b=none
 there:∀b o,h.get? b=some o->b∉ex->∃o',h'.get? b=some o'
 fw:∀b xs,H b=some (.tup xs)->H' b=some (.tup xs)
 dH:∀b o u,H b=some (.frz o u)->H' b=some (.frz o u)
 fR:∀b ps,H b=some (.tbl ps)->∃more,H' b=some (.tbl (ps++more))
section
variable {fs lY ex Lp:List Addr}{H H1 H2:Hp}{h h1 h2 h':Heap}{a x e:Addr}{o:HO}
theorem Un.any (u:Un fs ex H H1 h h1){b:Addr}{ob:Obj}(q:h.get? b=some ob)(n:H b=none)(hx:b∉ex):∃sl,h1.get? b=some { ob with slots:=sl }:=by
 by_cases hb:b∈fs
 ·exact u.slot b ob q n hb hx
 ·exact⟨ob.slots,u.keep b ob q n hb hx⟩
theorem Un.trans (a:Un fs ex H H1 h h1)(b:Un fs ex H1 H2 h1 h2):Un fs ex H H2 h h2 where
 keep:=fun c ob q n hc hx=>b.keep c ob (a.keep c ob q n hc hx) (a.free c ob q n hx) hc hx
 slot:=fun c ob q n hc hx=>by
  obtain⟨sl,e1⟩:=a.slot c ob q n hc hx
  obtain⟨B5,e2⟩:=b.slot c _ e1 (a.free c ob q n hx) hc hx
  exact⟨B5,e2⟩
 free:=fun c ob q n hx=>by
  obtain⟨o',e1⟩:=a.there c ob q hx
  exact b.free c o' e1 (a.free c ob q n hx) hx
 there:=fun c ob q hx=>by
  obtain⟨o',e1⟩:=a.there c ob q hx
  exact b.there c o' e1 hx
 fw:=fun c xs q=>b.fw c xs (a.fw c xs q)
 dH:=fun c ob xs q=>b.dH c ob xs (a.dH c ob xs q)
 fR:=fun c ps q=>by
  obtain⟨m1,e1⟩:=a.fR c ps q
  obtain⟨m2,e2⟩:=b.fR c _ e1
  exact⟨m1++m2,by rw[e2,Array.append_assoc]⟩
theorem Un.kept (k:∀b u,h.get? b=some u->h'.get? b=some u):Un fs ex H H h h':=
 ⟨fun b ob q _ _ _=>k b ob q,fun b ob q _ _ _=>⟨ob.slots,k b ob q⟩,fun _ _ _ n _=>n,fun b ob q _=>⟨ob,k b ob q⟩,fun _ _ q=>q,fun _ _ _ q=>q,fun _ ps q=>⟨#[],by rw[q];simp⟩⟩
theorem Un.refl:Un fs ex H H h h:=Un.kept fun _ _ q=>q
theorem Un.laid (k:∀b u,h.get? b=some u->h'.get? b=some u)(hp:h.objs.size<=a)(hn:H a=none):Un fs ex H (upd H a o) h h' where
 keep:=fun b u q _ _ _=>k b u q
 slot:=fun b u q _ _ _=>⟨u.slots,k b u q⟩
 free:=fun b u q n _=>by rw[aj (J5 (Jy (Jm q) hp))];exact n
 there:=fun b u q _=>⟨u,k b u q⟩
 fw:=fun b xs q=>by rw[aj (ai q hn)];exact q
 dH:=fun b u xs q=>by rw[aj (ai q hn)];exact q
 fR:=fun b ps q=>⟨#[],by rw[aj (ai q hn),q];simp⟩
theorem Un.write (mu:AN (H x))(he:e=x∨H e=some (.own x))(k:∀b u,b≠e->h.get? b=some u->h'.get? b=some u)(Aq:∃u,h'.get? e=some u):Un fs ex H (upd H x o) h h':=by
 have hx:∀b,H b=none->b≠x:=fun b n z=>by subst z;rw[n] at mu;exact mu
 have hb:∀b,H b=none->b≠e:=fun b n z=>by
  subst z
  rcases he with r|r
  ·exact hx b n r
  ·rw[n] at r;cases r
 have hm:∀b u,H b=some u->¬AN (some u)->b≠x:=fun b u q nm z=>by subst z;rw[q] at mu;exact nm mu
 refine⟨fun b u q n _ _=>k b u (hb b n) q,fun b u q n _ _=>⟨u.slots,k b u (hb b n) q⟩,fun b u q n _=>by rw[aj (hx b n)];exact n,fun b u q _ =>?_,
  fun b xs q=>by rw[aj (hm b _ q fun z=>z)];exact q,fun b u xs q=>by rw[aj (hm b _ q fun z=>z)];exact q,fun b ps q=>⟨#[],by rw[aj (hm b _ q fun z=>z),q];simp⟩⟩
 by_cases hbe:b=e
 ·subst hbe;exact Aq
 ·exact⟨u,k b u hbe q⟩
end
noncomputable def Df (h:Heap)(H:Hp):List Addr:=(Wh h.objs.size).filter fun a=>(H a).isSome
noncomputable def l6 (h:Heap)(H:Hp):Heap:=PySem.W.hideAll h (Df h H)
theorem qT (h:Heap)(H:Hp):(l6 h H).objs.size=h.objs.size:=PySem.W.hideAll_size _ _
theorem ud {h:Heap}{H:Hp}{b:Addr}{o:Obj}(e:h.get? b=some o)(n:H b=none):(l6 h H).get? b=some o:=
 PySem.W.hideAll_get _ e fun hm=>by
  have q:(H b).isSome=true:=(Y9.mp hm).2
  rw[n] at q;simp at q
theorem vq {h:Heap}{H:Hp}{b:Addr}{o:Obj}(e:(l6 h H).get? b=some o):h.get? b=some o/\H b=none:=by
 have e':h.get? b=some o:=PySem.W.of_hideAll (Df h H) e
 refine⟨e',?_⟩
 cases q:H b with
 | none=>rfl
 | some x=>
  have hm:b∈Df h H:=Y9.mpr ⟨List.mem_range.mpr (Jm e'),by simp[q]⟩
  have z:(l6 h H).get? b=none:=PySem.W.hideAll_none (Df h H) hm
  rw[z] at e;cases e
structure Mod (K:Jd)(mg:Str->Option Value)(base:Heap):Prop where
 kin:K.In base
 glob:base.Ns mainGlobals mg
 blt:∃mb,base.Ns builtinsNs mb/\∀x:Str,x ≠ "__name__" -> mb x=bootBuiltins x
 nolimit:base.NoLimit
structure Cx where
 prog:Program
 w:World
 K:Jd
 mg:Str->Option Value
 base:Heap
 A:Around
 N:List Str
 s₀:Shared
 H₀:Hp
 env:Env
 outer:List Env
 stack:List Env
 ex:List Addr
 fn:Str->Bool
 calm:Bool
 pn:List (Addr×Obj)
 xe:Value->Shared->Prop
noncomputable def kP (l:List Env):List Addr:=l.filterMap (·.frame)
noncomputable abbrev Cx.fs (X:Cx):List Addr:=kP X.outer
noncomputable def BV (sc:Scope)(x:Str):Prop:=sc.names.lookup x=some .local∨sc.names.lookup x=some .cell∨sc.names.lookup x=some .free
noncomputable def Loc (sc:Scope)(x:Str):Prop:=sc.names.lookup x=some .local∨sc.names.lookup x=some .cell
noncomputable def Look (env:Env)(h:Heap)(m:Str->Option Value)(x:Str)(u:Value):Prop:=
 (env.kindOf x=some .local/\m x=some u)∨((env.kindOf x=some .cell∨env.kindOf x=some .free)/\∃c,env.cells.lookup x=some c/\h.IsCell c (some u))
structure Cx.Ok (X:Cx):Prop where
 mod:Mod X.K X.mg X.base
 kind:X.env.scope.kind = .function
 glob:X.env.globals=mainGlobals
 blt:X.env.builtins=builtinsNs
 above:X.s₀.heap.objs.size<=X.env.locals
 inj:∀x y c,X.env.cells.lookup x=some c->X.env.cells.lookup y=some c->x=y
 has:∀x,(X.env.kindOf x=some .cell∨X.env.kindOf x=some .free)->∃c,X.env.cells.lookup x=some c
 cab:∀x c,X.fn x=true->X.env.cells.lookup x=some c->X.s₀.heap.objs.size<=c
 hd:X.calm=true->X.A.handled=none
 frames:X.A.frames=some X.stack
 stk:X.stack=X.outer∨(X.stack=X.env::X.outer/\X.env.frame=some X.env.locals)
 exf:∀b∈X.ex,b≠X.env.locals/\∀x c,X.env.cells.lookup x=some c->c≠b
 bs:∀b o,X.base.get? b=some o->X.s₀.heap.get? b=some o/\X.H₀ b=none
 bsz:X.base.objs.size<=X.s₀.heap.objs.size
 noex:∀b o,X.base.get? b=some o->b∉X.ex
 exfs:∀b∈X.ex,b∉X.fs
 g8:X.s₀.heap.FunFrames X.base X.outer
 rT:∀b∈X.fs,X.H₀ b=none
structure Inv (X:Cx)(pins:List (Addr×Obj))(σ:List (Option V))(H:Hp)(s:Shared):Prop where
 ok:X.Ok
 os:s.os=X.s₀.os
 bare:AllBare s.gens
 base:Un X.fs X.ex X.H₀ H X.s₀.heap s.heap
 loc:∃m,s.heap.Ns X.env.locals m/\∀(i:Nat) (x:Str) (v:V),X.N[i]? = some x -> σ[i]? = some (some v)->BV X.env.scope x->∃u,RelV v u/\Look X.env s.heap m x u
 cell:∀x c,X.env.cells.lookup x=some c->∃v,s.heap.IsCell c v
 free:H X.env.locals=none
 freeC:∀x c,X.env.cells.lookup x=some c->H c=none
 pin:∀p∈X.pn++pins,s.heap.get? p.1=some p.2/\H p.1=none/\p.1≠X.env.locals/\p.1∉X.fs/\∀v,p.2.data ≠ .cell v
 aN:d6 X.prog X.w H s.heap
 len: σ.length=X.N.length
section
variable {X:Cx}{pins:List (Addr×Obj)}{σ:List (Option V)}{H H':Hp}{s:Shared}{h':Heap}
theorem Cx.Ok.EW (ok:X.Ok){b:Addr}{o:Obj}(e:X.base.get? b=some o):b∉X.fs:=fun hb=>by
 have:=(ok.g8.mem hb).1
 rw[e] at this;cases this
theorem Inv.bs (I:Inv X pins σ H s):∀b o,X.base.get? b=some o->s.heap.get? b=some o/\H b=none:=fun b o e=>
 ⟨I.base.keep b o (I.ok.bs b o e).1 (I.ok.bs b o e).2 (I.ok.EW e) (I.ok.noex b o e),I.base.free b o (I.ok.bs b o e).1 (I.ok.bs b o e).2 (I.ok.noex b o e)⟩
theorem Inv.bk (I:Inv X pins σ H s):∀b o,X.base.get? b=some o->s.heap.get? b=some o:=fun b o e=>(I.bs b o e).1
theorem Inv.mod (I:Inv X pins σ H s):Mod X.K X.mg X.base:=I.ok.mod
theorem Inv.lq (I:Inv X pins σ H s):X.K.In s.heap:=I.ok.mod.kin.keeps I.bk
theorem Inv.lt (I:Inv X pins σ H s):X.env.locals<s.heap.objs.size:=let ⟨_,hn,_⟩:=I.loc;hn.lt
theorem Inv.sz (I:Inv X pins σ H s):X.s₀.heap.objs.size<=s.heap.objs.size:=Jq I.ok.above (Uy I.lt)
theorem Inv.BA (I:Inv X pins σ H s){a:Addr}(h:s.heap.objs.size<=a):a∉X.fs:=fun hb=>by
 obtain⟨_,o,ho,_⟩:=I.ok.g8.mem hb
 exact absurd (Jy (Jm ho) (Jq I.sz h)) (U6 _)
theorem Inv.yR (I:Inv X pins σ H s):∀x c,X.env.cells.lookup x=some c->c≠X.env.locals:=fun x c e z=>by
 obtain⟨v,o,ho,hd⟩:=I.cell x c e
 obtain⟨m,⟨o',es,ep,ho',hd',_⟩,_⟩:=I.loc
 rw[z,ho'] at ho;cases ho;rw[hd'] at hd;cases hd
theorem Inv.g8 (I:Inv X pins σ H s):s.heap.FunFrames X.base X.outer:=by
 have all:∀(l:List Env),(∀b∈kP l,b∈X.fs)->X.s₀.heap.FunFrames X.base l->s.heap.FunFrames X.base l:=by
  intro l
  induction l with
  | nil=>intro _ _;trivial
  | cons env r ih=>
   intro hs hl
   obtain⟨hk,⟨L,o,hf,hn,ho,hd⟩,hr⟩:=hl
   have hL:L∈X.fs:=hs L (by unfold kP;rw[List.filterMap_cons,hf];exact Jp)
   obtain⟨sl,e⟩:=I.base.slot L o ho (I.ok.rT L hL) hL fun z=>I.ok.exfs L z hL
   exact⟨hk,⟨L,_,hf,hn,e,hd⟩,ih (fun b hb=>hs b (by unfold kP;rw[List.filterMap_cons,hf];exact Jo _ hb)) hr⟩
 exact all X.outer (fun _ hb=>hb) I.ok.g8
theorem Inv.stack (I:Inv X pins σ H s):s.heap.FunFrames X.base X.stack:=by
 rcases I.ok.stk with e|⟨e,hf⟩
 ·rw[e];exact I.g8
 ·rw[e]
  obtain⟨m,hn,_⟩:=I.loc
  refine .cons (by rw[I.ok.kind];decide) hf hn ?_ I.g8
  exact Heap.get?_none_of_le (Jq I.ok.bsz I.ok.above)
theorem Inv.lJ (I:Inv X pins σ H s):∀b∈kP X.stack,b∈X.env.locals::X.fs:=fun b hb=>by
 rcases I.ok.stk with e|⟨e,hf⟩
 ·rw[e] at hb;exact Jo _ hb
 ·rw[e] at hb
  unfold kP at hb
  rw[List.filterMap_cons,hf] at hb
  exact hb
theorem Inv.pX (I:Inv X pins σ H s):∀b∈kP X.stack,H b=none:=fun b hb=>by
 rcases Ug.mp (I.lJ b hb) with e|hb
 ·rw[e];exact I.free
 ·obtain⟨_,o,ho,_⟩:=I.ok.g8.mem hb
  exact I.base.free b o ho (I.ok.rT b hb) fun z=>I.ok.exfs b z hb
theorem Inv.step {g':Array GenState}{t':Nat}{d':Drawn}{ch:List Addr}(I:Inv X pins σ H s)
  (nT:∀b∈ch,(b∈X.ex∨X.s₀.heap.objs.size<=b)/\b≠X.env.locals/\(∀x c,X.env.cells.lookup x=some c->c≠b)/\∀p∈X.pn++pins,p.1≠b)
  (keep:∀b o,b≠X.env.locals->b∉X.fs->b∉ch->s.heap.get? b=some o->H b=none->h'.get? b=some o)
  (slot:∀b o,b≠X.env.locals->b∈X.fs->b∉ch->s.heap.get? b=some o->H b=none->∃sl,h'.get? b=some { o with slots:=sl }) (free:∀b o,b∉ch->s.heap.get? b=some o->H b=none->H' b=none)
  (there:∀b o,b∉ch->s.heap.get? b=some o->∃o',h'.get? b=some o')
  (fw:∀b xs,H b=some (.tup xs)->H' b=some (.tup xs)) (dH:∀b o u,H b=some (.frz o u)->H' b=some (.frz o u)) (fR:∀b ps,H b=some (.tbl ps)->∃more,H' b=some (.tbl (ps++more)))
  (ns:∀m,s.heap.Ns X.env.locals m->h'.Ns X.env.locals m) (aN:d6 X.prog X.w H' h') (hg:AllBare g') :
  Inv X pins σ H' { s with heap:=h',gens:=g',drawn:=d',toks:=t' }:=by
 have G0:∀b o,X.s₀.heap.get? b=some o->b≠X.env.locals:=fun b o e=>J5 (Jy (Jm e) I.ok.above)
 have Dk:∀b o,X.s₀.heap.get? b=some o->b∉X.ex->b∉ch:=fun b o e hx hb=>by
  rcases(nT b hb).1 with z|z
  ·exact hx z
  ·exact absurd (Jy (Jm e) z) (U6 _)
 have cellK:∀x c,X.env.cells.lookup x=some c->∀v,s.heap.IsCell c v->h'.IsCell c v:=fun x c e v ⟨o,ho,hd⟩=>by
  have Cb:c∉ch:=fun z=>(nT c z).2.2.1 x c e rfl
  by_cases hc:c∈X.fs
  ·obtain⟨sl,q⟩:=slot c o (I.yR x c e) hc Cb ho (I.freeC x c e)
   exact⟨_,q,hd⟩
  ·exact⟨o,keep c o (I.yR x c e) hc Cb ho (I.freeC x c e),hd⟩
 refine⟨I.ok,I.os,hg,⟨fun b o e n hb hx =>?_,fun b o e n hb hx =>?_,fun b o e n hx =>?_,fun b o e hx =>?_,fun b xs e=>fw b xs (I.base.fw b xs e),fun b o xs e=>dH b o xs (I.base.dH b o xs e),fun b ps e =>?_⟩,?_,fun x c e =>?_,?_,fun x c e =>?_,fun p hp =>?_,aN,I.len⟩
 ·exact keep b o (G0 b o e) hb (Dk b o e hx) (I.base.keep b o e n hb hx) (I.base.free b o e n hx)
 ·obtain⟨sl,e1⟩:=I.base.slot b o e n hb hx
  obtain⟨B5,e2⟩:=slot b _ (G0 b o e) hb (Dk b o e hx) e1 (I.base.free b o e n hx)
  exact⟨B5,e2⟩
 ·obtain⟨o',e1⟩:=I.base.there b o e hx
  exact free b o' (Dk b o e hx) e1 (I.base.free b o e n hx)
 ·obtain⟨o',e1⟩:=I.base.there b o e hx
  exact there b o' (Dk b o e hx) e1
 ·obtain⟨m1,e1⟩:=I.base.fR b ps e
  obtain⟨m2,e2⟩:=fR b _ e1
  exact⟨m1++m2,by rw[e2,Array.append_assoc]⟩
 ·obtain⟨m,hn,hl⟩:=I.loc
  refine⟨m,ns m hn,fun i x v e1 e2 e3 =>?_⟩
  obtain⟨u,r,l⟩:=hl i x v e1 e2 e3
  refine⟨u,r,?_⟩
  rcases l with l|⟨k,c,e,z⟩
  ·exact .inl l
  ·exact .inr ⟨k,c,e,cellK x c e _ z⟩
 ·obtain⟨v,z⟩:=I.cell x c e
  exact⟨v,cellK x c e v z⟩
 ·obtain⟨m,⟨o,_,_,ho,_⟩,_⟩:=I.loc
  exact free _ o (fun z=>(nT _ z).2.1 rfl) ho I.free
 ·obtain⟨v,o,ho,hd⟩:=I.cell x c e
  exact free c o (fun z=>(nT c z).2.2.1 x c e rfl) ho (I.freeC x c e)
 ·obtain⟨e,n,ne,nf,d⟩:=I.pin p hp
  have Cb:p.1∉ch:=fun z=>(nT p.1 z).2.2.2 p hp rfl
  exact⟨keep p.1 p.2 ne nf Cb e n,free p.1 p.2 Cb e n,ne,nf,d⟩
theorem Inv.un {t':Nat}(I:Inv X pins σ H s)(u:Un X.fs [] H H' s.heap h')(aN:d6 X.prog X.w H' h'):Inv X pins σ H' { s with heap:=h',toks:=t' }:=by
 obtain⟨m,⟨o,es,ep,ho,r⟩,_⟩:=id I.loc
 obtain⟨sl,hL⟩:=u.any ho I.free (by simp)
 exact I.step (g':=s.gens) (d':=s.drawn) (ch:=[]) (fun _ z=>nomatch z) (fun b o _ hb _ e n=>u.keep b o e n hb (by simp)) (fun b o _ hb _ e n=>u.slot b o e n hb (by simp)) (fun b o _ e n=>u.free b o e n (by simp)) (fun b o _ e=>u.there b o e (by simp)) u.fw u.dH u.fR (fun m' hm=>by
  obtain⟨o',es',ep',ho',r'⟩:=hm
  rw[ho] at ho';cases ho'
  exact⟨_,es',ep',hL,r'⟩) aN I.bare
theorem Inv.call {g':Array GenState}{t':Nat}{d':Drawn}{ch:List Addr}(I:Inv X pins σ H s)(u:Un (kP X.stack) ch H H' s.heap h')(aN:d6 X.prog X.w H' h')(hg:AllBare g')
  (nT:∀b∈ch,(b∈X.ex∨X.s₀.heap.objs.size<=b)/\b≠X.env.locals/\(∀x c,X.env.cells.lookup x=some c->c≠b)/\∀p∈X.pn++pins,p.1≠b) :
  Inv X pins σ H' { s with heap:=h',gens:=g',drawn:=d',toks:=t' }:=by
 obtain⟨m,⟨o,es,ep,ho,r⟩,_⟩:=id I.loc
 obtain⟨sl,hL⟩:=u.any ho I.free fun z=>(nT _ z).2.1 rfl
 exact I.step (ch:=ch) nT (fun b o hL hb hc e n=>u.keep b o e n (fun z=>(Ug.mp (I.lJ b z)).elim hL hb) hc) (fun b o _ _ hc e n=>u.any e n hc) (fun b o hc e n=>u.free b o e n hc) (fun b o hc e=>u.there b o e hc) u.fw u.dH u.fR (fun m' hm=>by
  obtain⟨o',es',ep',ho',r'⟩:=hm
  rw[ho] at ho';cases ho'
  exact⟨_,es',ep',hL,r'⟩) aN hg
theorem Inv.turned {t':Nat}{it:Addr}(I:Inv X pins σ H s)(k:∀b o,b≠it->s.heap.get? b=some o->h'.get? b=some o)(hn:H it=none)(hL:it≠X.env.locals)
  (h1:it∈X.ex∨X.s₀.heap.objs.size<=it) (h2:∀x c,X.env.cells.lookup x=some c->c≠it) (h3:∀p∈X.pn++pins,p.1≠it):Inv X pins σ H { s with heap:=h',toks:=t' }:=by
 have Hl:∀b u,H b=some u->b≠it:=fun b u e z=>by rw[z,hn] at e;cases e
 refine I.step (g':=s.gens) (d':=s.drawn) (ch:=[it]) (fun b hb =>?_) (fun b o _ _ hc e _=>k b o (fun z=>hc (by simp[z])) e) (fun b o _ _ hc e _=>⟨o.slots,k b o (fun z=>hc (by simp[z])) e⟩) (fun _ _ _ _ n=>n)
  (fun b o hc e=>⟨o,k b o (fun z=>hc (by simp[z])) e⟩) (fun _ _ e=>e) (fun _ _ _ e=>e) (fun b ps e=>⟨#[],by rw[e];simp⟩) (fun m hm =>?_) (fun b u e =>?_) I.bare
 ·have e:b=it:=by simpa using hb
  subst e
  exact⟨h1,hL,h2,h3⟩
 ·obtain⟨o,es,ep,ho,r⟩:=hm
  exact⟨o,es,ep,k _ o (Ne.symm hL) ho,r⟩
 ·refine(I.aN b u e).lu (fun c v hc q=>k c v ?_ q) (fun _ q=>q) fun _ _ q=>q
  rcases hc with z|z
  ·rw[z];exact Hl b u e
  ·exact Hl c _ z
theorem Inv.tok (I:Inv X pins σ H s)(t:Nat):Inv X pins σ H { s with toks:=t }:=I.un (h':=s.heap) (t':=t) Un.refl I.aN
theorem Inv.kept {t':Nat}(I:Inv X pins σ H s)(k:∀b u,s.heap.get? b=some u->h'.get? b=some u):Inv X pins σ H { s with heap:=h',toks:=t' }:=I.un (Un.kept k) (I.aN.kept k)
theorem Inv.laid {a:Addr}{o:HO}{t':Nat}(I:Inv X pins σ H s)(k:∀b u,s.heap.get? b=some u->h'.get? b=some u)(hp:s.heap.objs.size<=a)(new:ba X.prog X.w (upd H a o) h' a o):
  Inv X pins σ (upd H a o) { s with heap:=h',toks:=t' }:=I.un (Un.laid k hp (I.aN.fresh hp)) (I.aN.laid k hp new)
theorem Inv.write {x e:Addr}{o:HO}{t':Nat}(I:Inv X pins σ H s)(mu:AN (H x))(he:e=x∨H e=some (.own x))(k:∀b u,b≠e->s.heap.get? b=some u->h'.get? b=some u)(Aq:∃u,h'.get? e=some u)
  (new:ba X.prog X.w (upd H x o) h' x o):Inv X pins σ (upd H x o) { s with heap:=h',toks:=t' }:=I.un (Un.write mu he k Aq) (I.aN.write mu he k Aq new)
theorem Inv.weak {σ':List (Option V)}(I:Inv X pins σ H s)(hl: σ'.length = σ.length)(w:∀(i:Nat) v,σ'[i]? = some (some v) -> σ[i]? = some (some v)):Inv X pins σ' H s:=
 ⟨I.ok,I.os,I.bare,I.base,let ⟨m,hn,sT⟩:=I.loc; ⟨m,hn,fun i x v e1 e2 e3=>sT i x v e1 (w i v e2) e3⟩,I.cell,I.free,I.freeC,I.pin,I.aN,hl.trans I.len⟩
theorem Inv.iR {xN:List (Addr×Obj)}(I:Inv X pins σ H s)(h:∀p∈xN,s.heap.get? p.1=some p.2/\H p.1=none/\p.1≠X.env.locals/\p.1∉X.fs/\∀v,p.2.data ≠ .cell v):Inv X xN σ H s:=
 ⟨I.ok,I.os,I.bare,I.base,I.loc,I.cell,I.free,I.freeC,fun p hp=>(Jj.mp hp).elim (fun z=>I.pin p (Jx _ z)) (h p),I.aN,I.len⟩
theorem me {N:List Str}(hN:N.Nodup){i j:Nat}{x:Str}(a:N[i]? = some x)(b:N[j]? = some x):i=j:=by
 obtain⟨h1,e1⟩:=Ju.mp a
 obtain⟨h2,e2⟩:=Ju.mp b
 exact(List.getElem_inj hN).mp (e1.trans e2.symm)
theorem hJ {M:Model}{A:Around}{E:Value->Shared->Prop}{i:Nat}{x:Str}{v:V}{u:Value}{Q:Unit->Shared->Prop}(I:Inv X pins σ H s)(hN:X.N.Nodup)(hi:X.N[i]? = some x)(hx:Loc X.env.scope x)(r:RelV v u)
  (h:∀s',Inv X pins (σ.set i (some v)) H s'->(∃a,Yd a s.heap s'.heap/\(a=X.env.locals∨X.env.cells.lookup x=some a))->Q () s') (hf:X.fn x=true∨X.env.scope.names.lookup x=some .local:=by first|exact .inl rfl|exact .inr rfl|assumption):wpAny M A (storeName X.env x u) Q E s:=by
 obtain⟨m,hn,hl⟩:=id I.loc
 have D8:(X.env.scope.kind == .class||(X.env.scope.kind == .module&&X.env.locals != X.env.globals))=false:=by rw[I.ok.kind];rfl
 have HN:i < σ.length:=by rw[I.len];exact(Ju.mp hi).1
 have yR:=I.yR
 have tracked:∀{a:Addr} {h':Heap},(∃o,s.heap.get? a=some o/\H a=none)->Yd a s.heap h'->d6 X.prog X.w H h':=fun{a h'} ha hs b ob e=>by
  obtain⟨_,_,p0⟩:=ha
  refine(I.aN b ob e).lu (fun c w' hc q=>(hs.2 c ?_).trans q) (fun _ q=>q) fun _ _ q=>q
  rintro rfl
  rcases hc with rfl|hc
  ·rw[p0] at e;cases e
  ·rw[p0] at hc;cases hc
 rcases hx with hk|hk
 ·refine wpAny_storeName_local hk hn (fun h' hn' hs =>?_) D8
  obtain⟨oL,_,_,hoL,_⟩:=id hn
  refine h _ ⟨I.ok,I.os,I.bare,⟨fun b o e n hb hx =>?_,fun b o e n hb hx =>?_,I.base.free,fun b o e hx =>?_,I.base.fw,I.base.dH,I.base.fR⟩,⟨_,hn',fun j y v' e1 e2 e3 =>?_⟩,fun y c e =>?_,I.free,I.freeC,fun p hp =>?_,tracked ⟨oL,hoL,I.free⟩ hs,by simpa using I.len⟩ ⟨_,hs,.inl rfl⟩
  ·exact(hs.2 b (J5 (Jy (Jm e) I.ok.above))).trans (I.base.keep b o e n hb hx)
  ·obtain⟨sl,e1⟩:=I.base.slot b o e n hb hx
   exact⟨sl,(hs.2 b (J5 (Jy (Jm e) I.ok.above))).trans e1⟩
  ·obtain⟨o',e1⟩:=I.base.there b o e hx
   exact⟨o',(hs.2 b (J5 (Jy (Jm e) I.ok.above))).trans e1⟩
  ·by_cases hj:j=i
   ·subst hj
    rw[hi] at e1;cases e1
    rw[List.getElem?_set_self HN] at e2
    cases e2
    exact⟨u,r,.inl ⟨hk,by simp⟩⟩
   ·rw[List.getElem?_set_ne (Ne.symm hj)] at e2
    obtain⟨u',r',q⟩:=hl j y v' e1 e2 e3
    refine⟨u',r',?_⟩
    rcases q with ⟨k,e⟩|⟨k,c,e,z⟩
    ·refine .inl ⟨k,?_⟩
     have:y≠x:=fun e=>hj (me hN e1 (e▸hi))
     simp[this,e]
    ·exact .inr ⟨k,c,e,z.sameBut hs (yR y c e)⟩
  ·obtain⟨w',z⟩:=I.cell y c e
   exact⟨w',z.sameBut hs (yR y c e)⟩
  ·obtain⟨e,n,ne,nf,d⟩:=I.pin p hp
   exact⟨(hs.2 p.1 ne).trans e,n,ne,nf,d⟩
 ·have Ey:X.fn x=true:=by
   rcases hf with z|z
   ·exact z
   ·rw[z] at hk;cases hk
  obtain⟨c,hc⟩:=I.ok.has x (.inl hk)
  obtain⟨w',z⟩:=I.cell x c hc
  refine wpAny_storeName_cell I.ok.kind hk hc z (fun h' jT hs =>?_)
  obtain⟨oc,hoc,hocd⟩:=id z
  refine h { s with heap:=h' } ⟨I.ok,I.os,I.bare,⟨fun b o e n hb hx =>?_,fun b o e n hb hx =>?_,I.base.free,fun b o e hx =>?_,I.base.fw,I.base.dH,I.base.fR⟩,⟨m,hn.sameBut hs (Ne.symm (yR x c hc)),fun j y v' e1 e2 e3 =>?_⟩,fun y c' e =>?_,I.free,I.freeC,fun p hp =>?_,tracked ⟨oc,hoc,I.freeC x c hc⟩ hs,by simpa using I.len⟩ ⟨c,hs,.inr hc⟩
  ·exact(hs.2 b (J5 (Jy (Jm e) (I.ok.cab x c Ey hc)))).trans (I.base.keep b o e n hb hx)
  ·obtain⟨sl,e1⟩:=I.base.slot b o e n hb hx
   exact⟨sl,(hs.2 b (J5 (Jy (Jm e) (I.ok.cab x c Ey hc)))).trans e1⟩
  ·obtain⟨o',e1⟩:=I.base.there b o e hx
   exact⟨o',(hs.2 b (J5 (Jy (Jm e) (I.ok.cab x c Ey hc)))).trans e1⟩
  ·by_cases hj:j=i
   ·subst hj
    rw[hi] at e1;cases e1
    rw[List.getElem?_set_self HN] at e2
    cases e2
    exact⟨u,r,.inr ⟨.inl hk,c,hc,jT⟩⟩
   ·rw[List.getElem?_set_ne (Ne.symm hj)] at e2
    obtain⟨u',r',q⟩:=hl j y v' e1 e2 e3
    refine⟨u',r',?_⟩
    rcases q with q|⟨k,c',e,z'⟩
    ·exact .inl q
    ·refine .inr ⟨k,c',e,z'.sameBut hs ?_⟩
     rintro rfl
     exact hj (me hN e1 (I.ok.inj _ _ _ e hc▸hi))
  ·by_cases hcc:c'=c
   ·subst hcc;exact⟨_,jT⟩
   ·obtain⟨w2,z2⟩:=I.cell y c' e
    exact⟨w2,z2.sameBut hs hcc⟩
  ·obtain⟨e,n,ne,nf,d⟩:=I.pin p hp
   refine⟨(hs.2 p.1 ?_).trans e,n,ne,nf,d⟩
   intro q
   rw[q,hoc] at e
   have q':oc=p.2:=Option.some.inj e
   exact d w' (by rw[<-q'];exact hocd)
theorem mO {M:Model}{A:Around}{E:Value->Shared->Prop}{i:Nat}{x:Str}{v:V}{u:Value}{Q:Unit->Shared->Prop}(I:Inv X pins σ H s)(hN:X.N.Nodup)(hi:X.N[i]? = some x)(hx:Loc X.env.scope x)(r:RelV v u)
  (h:∀s',Inv X pins (σ.set i (some v)) H s'->Q () s') (hf:X.fn x=true∨X.env.scope.names.lookup x=some .local:=by first|exact .inl rfl|exact .inr rfl|assumption):wpAny M A (storeName X.env x u) Q E s:=
 hJ I hN hi hx r (fun s' I' _=>h s' I') hf
theorem Inv.pJ {s':Shared}{ch:List Addr}(I:Inv X pins σ H s)(ho:s'.os=s.os)(u:Un (kP X.stack) ch H H' s.heap s'.heap)(aN:d6 X.prog X.w H' s'.heap)(hg:AllBare s'.gens)
  (nT:∀b∈ch,(b∈X.ex∨X.s₀.heap.objs.size<=b)/\b≠X.env.locals/\(∀x c,X.env.cells.lookup x=some c->c≠b)/\∀p∈X.pn++pins,p.1≠b):Inv X pins σ H' s':=by
 obtain⟨h',g',d',t',o'⟩:=s'
 have e:o'=s.os:=ho
 subst e
 exact I.call (g':=g') (t':=t') (d':=d') u aN hg nT
end
noncomputable abbrev XK:=Value->Option Addr->Hp->Prop
noncomputable abbrev St:=List (Option V)
noncomputable abbrev VK:=V->Hp->Prop
noncomputable abbrev TE:=St->Hp->VK->Prop
noncomputable abbrev TT:=St->Hp->(Bool->Hp->Prop)->Prop
noncomputable abbrev TA:=St->Hp->(List V->Hp->Prop)->Prop
structure Ends where
 nx:St->Hp->Prop
 rt:VK
 bk:St->Hp->Prop:=fun _ _=>False
 ct:St->Hp->Prop:=fun _ _=>False
noncomputable abbrev TS:=Ends->St->Hp->Prop
noncomputable def EP (X:Cx)(pins:List (Addr×Obj))(σ:St)(Q:VK)(u:Value)(s':Shared):Prop:=bV fun v H'=>Inv X pins σ H' s'/\RelV v u/\Q v H'
noncomputable def TP (X:Cx)(pins:List (Addr×Obj))(σ:St)(Q:Bool->Hp->Prop)(b:Bool)(s':Shared):Prop:=∃H',Inv X pins σ H' s'/\Q b H'
noncomputable def AP (X:Cx)(pins:List (Addr×Obj))(σ:St)(Q:List V->Hp->Prop)(us:List Value)(s':Shared):Prop:=bV fun vs H'=>Inv X pins σ H' s'/\Vals vs us/\Q vs H'
noncomputable instance EO {X:Cx} {pins:List (Addr×Obj)} {σ:St} {Q:VK} {u:Value} {s':Shared}:ae (EP X pins σ Q u s') (fun G=>∀v H',Inv X pins σ H' s'->RelV v u->Q v H'->G):=⟨fun⟨v,H',a,b,c⟩ _ k=>k v H' a b c⟩
noncomputable instance Ft {X:Cx} {pins:List (Addr×Obj)} {σ:St} {Q:Bool->Hp->Prop} {b:Bool} {s':Shared}:ae (TP X pins σ Q b s') (fun G=>∀H',Inv X pins σ H' s'->Q b H'->G):=⟨fun⟨H',a,c⟩ _ k=>k H' a c⟩
noncomputable instance Gz {X:Cx} {pins:List (Addr×Obj)} {σ:St} {Q:List V->Hp->Prop} {us:List Value} {s':Shared}:ae (AP X pins σ Q us s') (fun G=>∀vs H',Inv X pins σ H' s'->Vals vs us->Q vs H'->G):=⟨fun⟨v,H',a,b,c⟩ _ k=>k v H' a b c⟩
noncomputable def SP (X:Cx)(pins:List (Addr×Obj))(D:Ends)(f:Flow)(s':Shared):Prop:=
 match f with
 | .next=>bV fun σ' H'=>Inv X pins σ' H' s'/\D.nx σ' H'
 | .brk=>bV fun σ' H'=>Inv X pins σ' H' s'/\D.bk σ' H'
 | .cont=>bV fun σ' H'=>Inv X pins σ' H' s'/\D.ct σ' H'
 | .ret u=>dR fun v σ' H'=>Inv X pins σ' H' s'/\RelV v u/\D.rt v H'
noncomputable def PE (X:Cx)(e:Expr)(t:TE):Prop:=
 ∀ ⦃pins:List (Addr×Obj)⦄ (s:Shared) (σ:St) (H:Hp) (Q:VK),Inv X pins σ H s->t σ H Q->wpAny (model X.prog X.w) X.A (eval e X.env) (EP X pins σ Q) X.xe s
noncomputable def PT (X:Cx)(e:Expr)(t:TT):Prop:=
 ∀ ⦃pins:List (Addr×Obj)⦄ (s:Shared) (σ:St) (H:Hp) (Q:Bool->Hp->Prop),Inv X pins σ H s->t σ H Q->wpAny (model X.prog X.w) X.A (isTrue e X.env (eval e X.env)) (TP X pins σ Q) X.xe s
noncomputable def PW (X:Cx)(e:Expr)(t:TT):Prop:=
 ∀ ⦃whole:Sem Value⦄ ⦃pins:List (Addr×Obj)⦄ (s:Shared) (σ:St) (H:Hp) (Q:Bool->Hp->Prop),Inv X pins σ H s->t σ H Q->wpAny (model X.prog X.w) X.A (isTrue e X.env whole) (TP X pins σ Q) X.xe s
theorem PW.pt {X:Cx}{e:Expr}{t:TT}(h:PW X e t):PT X e t:=fun pins s σ H Q I q=>h s σ H Q I q
noncomputable def PA (X:Cx)(es:List Expr)(t:TA):Prop:=
 ∀ ⦃pos:Pos⦄ ⦃pins:List (Addr×Obj)⦄ (s:Shared) (σ:St) (H:Hp) (Q:List V->Hp->Prop),Inv X pins σ H s->t σ H Q->wpAny (model X.prog X.w) X.A (spliced (backTo pos (starEach es X.env))) (AP X pins σ Q) X.xe s
noncomputable def PS (X:Cx)(st:Stmt)(t:TS):Prop:=
 ∀ ⦃pins:List (Addr×Obj)⦄ (s:Shared) (σ:St) (H:Hp) (D:Ends),Inv X pins σ H s->t D σ H->wpAny (model X.prog X.w) X.A (exec st X.env) (SP X pins D) X.xe s
noncomputable def qW (X:Cx)(st:List Stmt)(t:TS):Prop:=
 ∀ ⦃pins:List (Addr×Obj)⦄ (s:Shared) (σ:St) (H:Hp) (D:Ends),Inv X pins σ H s->t D σ H->wpAny (model X.prog X.w) X.A (execs st X.env) (SP X pins D) X.xe s
theorem aM {α:Type}{t:Sem α}{Q Q': α->Shared->Prop}{M:Model}{A:Around}{E:Value->Shared->Prop}{s:Shared}(h:wpAny M A t Q E s)(hQ:∀a s,Q a s->Q' a s):wpAny M A t Q' E s:=wpAny_mono h hQ fun _ _ x=>x
section
variable {X:Cx}
noncomputable def tm (i:Nat):TE:=fun σ H Q=>∃v,σ[i]? = some (some v)/\Q v H
noncomputable def tC (v:V):TE:=fun _ H Q=>Q v H
theorem zu {i:Nat}{x:Str}{pos:Pos}(hN:X.N[i]? = some x)(hv:BV X.env.scope x)(hd:(x==("__debug__" : Str))=false:=by decide)(qL:(x==("__classdict__" : Str))=false:=by decide):PE X (.Name x pos) (tm i):=by
 intro pins s σ H Q I h
 obtain⟨v,e,h⟩:=h
 obtain⟨m,hn,hl⟩:=I.loc
 obtain⟨u,r,l⟩:=hl i x v hN e hv
 have fin:EP X pins σ Q u s:=⟨v,H,I,r,h⟩
 rcases l with ⟨hk,hm⟩|⟨hk,c,hc,hcell⟩
 ·exact wpAny_Name (wpAny_loadName_local I.ok.kind hk hn hm fin) hd
 ·rcases hk with hk|hk
  ·exact wpAny_Name (wpAny_loadName_cell I.ok.kind hk hc hcell fin) hd
  ·exact wpAny_Name (wpAny_loadName_free I.ok.kind hk hc hcell fin qL) hd
theorem ar {i j pos}:PE X (.Constant (.int i) j pos) (tC (.int i)):=fun _ _ _ H _ I h=>wpAny_Constant_int ⟨.int i,H,I.tok _,⟨_,rfl⟩,h⟩
theorem kb {b j pos}:PE X (.Constant (.bool b) j pos) (tC (.bl b)):=fun _ _ _ H _ I h=>Constant_bool ⟨.bl b,H,I,rfl,h⟩
theorem d9 {j pos}:PE X (.Constant .none j pos) (tC .non):=fun _ _ _ H _ I h=>Constant_none ⟨.non,H,I,rfl,h⟩
theorem aZ {x j pos}:PE X (.Constant (.str x) j pos) (tC (.str x)):=fun _ _ _ H _ I h=>Calls.Constant_str ⟨.str x,H,I.tok _,⟨_,rfl⟩,h⟩
noncomputable def Gl (X:Cx)(x:Str):Prop:=X.env.kindOf x=some .globalImplicit
theorem pC {E:Value->Shared->Prop}{pins:List (Addr×Obj)}{s:Shared}{σ:St}{H:Hp}{x:Str}{u:Value}{pos:Pos}{Q:Value->Shared->Prop}(I:Inv X pins σ H s)(hg:Gl X x)(hm:X.mg x=some u)(h:Q u s)
  (hd:(x==("__debug__" : Str))=false:=by decide):wpAny (model X.prog X.w) X.A (eval (.Name x pos) X.env) Q E s:=
 Calls.Name_function_global I.ok.kind hg (Calls.loadGlobal_global (by rw[I.ok.glob];exact I.mod.glob.keeps I.bk) hm h) hd
theorem e9 {E:Value->Shared->Prop}{pins:List (Addr×Obj)}{s:Shared}{σ:St}{H:Hp}{x:Str}{u:Value}{pos:Pos}{Q:Value->Shared->Prop}(I:Inv X pins σ H s)(hg:Gl X x)(hm:X.mg x=none)(hv:bootBuiltins x=some u)(h:Q u s)
  (hn:x ≠ "__name__":=by decide) (hd:(x==("__debug__" : Str))=false:=by decide):wpAny (model X.prog X.w) X.A (eval (.Name x pos) X.env) Q E s:=by
 obtain⟨mb,h1,h2⟩:=I.mod.blt
 exact Calls.Name_function_global I.ok.kind hg (Calls.loadGlobal_builtin (by rw[I.ok.glob];exact I.mod.glob.keeps I.bk) hm (by rw[I.ok.blt];exact h1.keeps I.bk) ((h2 x hn).trans hv) h) hd
theorem v9 {x:Str}{v:V}{u:Value}{pos:Pos}(hg:Gl X x)(hm:X.mg x=some u)(r:RelV v u)(hd:(x==("__debug__" : Str))=false:=by decide):PE X (.Name x pos) (tC v):=
 fun _ _ _ H _ I h=>pC I hg hm ⟨v,H,I,r,h⟩ hd
theorem w4 {x:Str}{v:V}{u:Value}{pos:Pos}(hg:Gl X x)(hm:X.mg x=none)(hv:bootBuiltins x=some u)(r:RelV v u)(hn:x ≠ "__name__":=by decide)(hd:(x==("__debug__" : Str))=false:=by decide):PE X (.Name x pos) (tC v):=
 fun _ _ _ H _ I h=>e9 I hg hm hv ⟨v,H,I,r,h⟩ hn hd
variable {a b:Expr}{ta tb:TE}{pos:Pos}
noncomputable def PC (X:Cx)(op:CmpOp)(a b:Expr)(t:TE):Prop:=
 ∀ ⦃pins:List (Addr×Obj)⦄ (s:Shared) (σ:St) (H:Hp) (Q:VK),Inv X pins σ H s->t σ H Q ->
  wpAny (model X.prog X.w) X.A (eval a X.env) (fun v s₁=>wpAny (model X.prog X.w) X.A (eval b X.env) (fun u s₂=>wpAny (model X.prog X.w) X.A (compareOp op v u) (EP X pins σ Q) X.xe s₂) X.xe s₁) X.xe s
noncomputable def tB (t:TE):TT:=fun σ H Q=>t σ H fun x H1=>∃c,x = .bl c/\Q c H1
theorem tH {op:CmpOp}{t:TE}(h:PC X op a b t)(h1:behindInMarks op b=false:=by first|exact nobehind _ (by decide) (by decide)|rfl):PE X (.Compare a [op] [b] pos) t:=fun pins s σ H Q I hw=>wpAny_Compare1 (h s σ H Q I hw) h1
theorem ic {op:CmpOp}{t:TE}(h:PC X op a b t)(h1:behindInMarks op b=false:=by first|exact nobehind _ (by decide) (by decide)|rfl):PT X (.Compare a [op] [b] pos) (tB t):=by
 intro pins s σ H Q I hw
 refine wpAny_isTrue_Compare1 (aM (h s σ H _ I hw) fun v s1 h1=>aM h1 fun u s2 h2=>aM h2 fun c s3 hz_=>ae.el hz_ _ fun x H1 I1 r1 q1 =>?_) h1
 obtain⟨d,rfl,q⟩:=q1
 cases r1
 exact wpAny_truthy_bool ⟨H1,I1,q⟩
theorem hZ {e:Expr}{t:TE}(h:PE X e t)(he:∀whole,isTrue e X.env whole=(do let v <-whole;standAt e.pos;holding [v] (truthy v)):=by intro _;rfl):PT X e (tB t):=by
 intro pins s σ H Q I hw
 refine isTrue_plain (aM (h s σ H _ I hw) fun v s1 hz_=>ae.el hz_ _ fun x H1 I1 r1 q1 =>?_) (he _)
 obtain⟨d,rfl,q⟩:=q1
 cases r1
 exact wpAny_truthy_bool ⟨H1,I1,q⟩
variable {tA Di:TT}{rest:List Expr}
noncomputable def EL (t u:TT):TT:=fun σ H Q=>t σ H fun c H1=>if c=true then u σ H1 Q else Q false H1
noncomputable def KI (t u:TT):TT:=fun σ H Q=>t σ H fun c H1=>if c=true then Q true H1 else u σ H1 Q
theorem gT (ha:PT X a tA):PW X (.BoolOp .And [a] pos) tA:=by
 intro wh pins s σ H Q I h
 refine isTrue_and (aM (ha s σ H Q I h) fun c s1 e =>?_)
 cases c with
 | true=>exact isTrue_and_nil e
 | false=>exact e
theorem yl (ha:PT X a tA):PW X (.BoolOp .Or [a] pos) tA:=by
 intro wh pins s σ H Q I h
 refine isTrue_or (aM (ha s σ H Q I h) fun c s1 e =>?_)
 cases c with
 | false=>exact isTrue_or_nil e
 | true=>exact e
theorem ja (ha:PT X a tA)(hb:PW X (.BoolOp .And (b::rest) pos) Di):PW X (.BoolOp .And (a::b::rest) pos) (EL tA Di):=by
 intro wh pins s σ H Q I h
 refine isTrue_and (aM (ha s σ H _ I h) fun c s1 hz_ =>?_)
 refine ae.el hz_ _ ?_
 clear hz_
 rintro H1 I1 q1
 cases c with
 | true=>exact hb s1 σ H1 Q I1 q1
 | false=>exact⟨H1,I1,q1⟩
theorem xQ (ha:PT X a tA)(hb:PW X (.BoolOp .Or (b::rest) pos) Di):PW X (.BoolOp .Or (a::b::rest) pos) (KI tA Di):=by
 intro wh pins s σ H Q I h
 refine isTrue_or (aM (ha s σ H _ I h) fun c s1 hz_ =>?_)
 refine ae.el hz_ _ ?_
 clear hz_
 rintro H1 I1 q1
 cases c with
 | true=>exact⟨H1,I1,q1⟩
 | false=>exact hb s1 σ H1 Q I1 q1
noncomputable def Ez (t:TT)(ta tb:TE):TE:=fun σ H Q=>t σ H fun c H1=>if c=true then ta σ H1 Q else tb σ H1 Q
theorem fu {c:Expr}(hc:PT X c tA)(ha:PE X a ta)(hb:PE X b tb):PE X (.IfExp c a b pos) (Ez tA ta tb):=by
 intro pins s σ H Q I h
 refine wpAny_IfExp (aM (hc s σ H _ I h) fun d s1 hz_ =>?_)
 refine ae.el hz_ _ ?_
 clear hz_
 rintro H1 I1 q1
 cases d with
 | true=>exact ha s1 σ H1 Q I1 q1
 | false=>exact hb s1 σ H1 Q I1 q1
end
noncomputable def aB (K:Jd)(H:Hp)(a:Addr)(xs:List V):Prop:=
 Rd H a (.lst xs) ∨
  dR fun(o:Obj) (au:Array Value) (n:Nat)=>K.lookup a=some o/\o.cls = .type "list" /\ o.dict=none/\o.data = .seq au n/\au.size<=sizeLine/\Vals xs au.toList
noncomputable def iC (K:Jd)(H:Hp)(a:Addr)(xs:List V):Prop:=
 Rd H a (.tup xs) ∨
  dR fun(o:Obj) (au:Array Value) (n:Nat)=>K.lookup a=some o/\o.cls = .type "tuple" /\ o.data = .seq au n/\au.size<=sizeLine/\Vals xs au.toList
noncomputable def DA:Value->Option V
 | .none=>some .non
 | .bool b=>some (.bl b)
 | .int i _=>some (.int i)
 | .str x _=>some (.str x)
 | .bytes b _=>some (.byt b)
 | .float b _=>some (.flt b)
 | .ref a=>some (.ref a)
 | .type n=>some (.ty n)
 | _=>none
theorem RelV.abs {x:V}{u:Value}(r:RelV x u):DA u=some x:=by
 cases x with
 | non=>cases r;rfl
 | bl _=>cases r;rfl
 | int _=>obtain⟨t,rfl⟩:=r;rfl
 | str _=>obtain⟨t,rfl⟩:=r;rfl
 | byt _=>obtain⟨t,rfl⟩:=r;rfl
 | flt _=>obtain⟨t,rfl⟩:=r;rfl
 | ref _=>cases r;rfl
 | ty _=>cases r;rfl
theorem RelV.inj {x y:V}{u:Value}(r:RelV x u)(q:RelV y u):x=y:=Option.some.inj (r.abs.symm.trans q.abs)
theorem Vals.inj {xs ys:List V}{us:List Value}(h:Vals xs us)(h':Vals ys us):xs=ys:=by
 induction h generalizing ys with
 | nil=>cases h';rfl
 | cons r t ih=>cases h' with|cons r' t'=>rw[RelV.inj r r',ih t']
section
variable {X:Cx}{pins:List (Addr×Obj)}{σ:St}{H:Hp}{s:Shared}{a:Addr}{xs ys:List V}
theorem aB.of {K:Jd}(h:H a=some (.lst xs)):aB K H a xs := .inl (.inl h)
theorem iC.of {K:Jd}(h:H a=some (.tup xs)):iC K H a xs := .inl (.inl h)
theorem Inv.list (I:Inv X pins σ H s)(h:aB X.K H a xs):∃au:List Value,Vals xs au/\PlainL s.heap a au.toArray/\xs.length<=sizeLine:=by
 rcases h with h|⟨o,au,n,hk,hc,hd,hs,hz,r⟩
 ·obtain⟨z,au,n,r,e⟩:=h.ok I.aN
  exact⟨au,r,⟨_,n,e,rfl,rfl,rfl⟩,z⟩
 ·refine⟨au.toList,r,⟨o,n,I.lq a o hk,hc,hd,by simpa using hs⟩,?_⟩
  have e:=r.length
  simp only[Jr] at e
  omega
theorem Inv.tuple (I:Inv X pins σ H s)(h:iC X.K H a xs):∃au:List Value,Vals xs au/\IsTup s.heap a au.toArray/\xs.length<=sizeLine:=by
 rcases h with h|⟨o,au,n,hk,hc,hs,hz,r⟩
 ·obtain⟨z,au,r,p⟩:=h.ok I.aN
  exact⟨au,r,p,z⟩
 ·refine⟨au.toList,r,⟨o,I.lq a o hk,hc,n,by simpa using hs⟩,?_⟩
  have e:=r.length
  simp only[Jr] at e
  omega
theorem Inv.sR (I:Inv X pins σ H s)(h:aB X.K H a xs)(h':aB X.K H a ys):xs=ys:=by
 obtain⟨au,r,⟨o,n,e,_,_,d⟩,_⟩:=I.list h
 obtain⟨its',r',⟨o',n',e',_,_,d'⟩,_⟩:=I.list h'
 rw[e] at e';cases e'
 rw[d] at d'
 injection d' with d1 _
 have:au=its':=by simpa using congrArg Array.toList d1
 subst this
 exact r.inj r'
end
noncomputable abbrev Cx.jN (X:Cx)(E:Value->Shared->Prop):Cx:={ X with xe:=E }
noncomputable abbrev Cx.Dr (X:Cx):Cx:=X.jN fun _ _=>False
theorem Cx.Ok.jN {X:Cx}(ok:X.Ok)(E:Value->Shared->Prop):(X.jN E).Ok:=
 ⟨ok.mod,ok.kind,ok.glob,ok.blt,ok.above,ok.inj,ok.has,ok.cab,ok.hd,ok.frames,ok.stk,ok.exf,ok.bs,ok.bsz,ok.noex,ok.exfs,ok.g8,ok.rT⟩
theorem Cx.Ok.fe {X:Cx}{E:Value->Shared->Prop}(ok:(X.jN E).Ok):X.Ok:=
 ⟨ok.mod,ok.kind,ok.glob,ok.blt,ok.above,ok.inj,ok.has,ok.cab,ok.hd,ok.frames,ok.stk,ok.exf,ok.bs,ok.bsz,ok.noex,ok.exfs,ok.g8,ok.rT⟩
section
variable {X:Cx}{pins:List (Addr×Obj)}{σ:St}{H:Hp}{s:Shared}{E:Value->Shared->Prop}
theorem Inv.jN (I:Inv X pins σ H s)(E:Value->Shared->Prop):Inv (X.jN E) pins σ H s:=⟨I.ok.jN E,I.os,I.bare,I.base,I.loc,I.cell,I.free,I.freeC,I.pin,I.aN,I.len⟩
theorem Inv.fe (I:Inv (X.jN E) pins σ H s):Inv X pins σ H s:=⟨I.ok.fe,I.os,I.bare,I.base,I.loc,I.cell,I.free,I.freeC,I.pin,I.aN,I.len⟩
theorem SP.fe {D:Ends}{f:Flow}{s':Shared}(h:SP (X.jN E) pins D f s'):SP X pins D f s':=by
 cases f with
 | next=>obtain⟨σ',H',I,q⟩:=h;exact⟨σ',H',I.fe,q⟩
 | brk=>obtain⟨σ',H',I,q⟩:=h;exact⟨σ',H',I.fe,q⟩
 | cont=>obtain⟨σ',H',I,q⟩:=h;exact⟨σ',H',I.fe,q⟩
 | ret u=>obtain⟨v,σ',H',I,r,q⟩:=h;exact⟨v,σ',H',I.fe,r,q⟩
theorem qW.Dr {st:List Stmt}{t:TS}(h:qW X.Dr st t):qW X st t:=fun pins s σ H D I hw=>
 wpAny_mono (h s σ H D (I.jN _) hw) (fun _ _ q=>q.fe) fun _ _ z=>False.elim z
end
section
variable {X:Cx}{st:Stmt}{rest:List Stmt}{t u:TS}{e:Expr}{te:TE}{pos:Pos}
noncomputable def sO:TS:=fun D σ H=>D.nx σ H
noncomputable def sW (t u:TS):TS:=fun D σ H=>t { D with nx:=u D } σ H
theorem bu:qW X [] sO:=fun _ _ σ H _ I h=>wpAny_execs_nil ⟨σ,H,I,h⟩
theorem ah (h1:PS X st t)(h2:qW X rest u):qW X (st::rest) (sW t u):=by
 intro pins s σ H D I h
 refine wpAny_execs_cons (aM (h1 s σ H { D with nx:=u D } I h) fun f s1 q =>?_)
 cases f with
 | next=>
  obtain⟨σ',H',I',q⟩:=q
  exact h2 s1 σ' H' D I' q
 | ret v=>exact q
 | brk=>exact q
 | cont=>exact q
theorem ao (h1:PS X st t):qW X [st] t:=by
 intro pins s σ H D I h
 refine wpAny_execs_cons (aM (h1 s σ H D I h) fun f s1 q =>?_)
 cases f with
 | next=>exact wpAny_execs_nil q
 | ret v=>exact q
 | brk=>exact q
 | cont=>exact q
theorem Inv.quiet {pins:List (Addr×Obj)}{σ:St}{H:Hp}{s:Shared}(I:Inv X pins σ H s):interactive X.env=false:=by simp[interactive,I.ok.kind]
noncomputable def BS (te:TE):TS:=fun D σ H=>te σ H fun _ H1=>D.nx σ H1
theorem cY (he:PE X e te)(hs:swapsWith e none pos.line X.env=pure false:=by rfl):PS X (.Expr e pos) (BS te):=by
 intro pins s σ H D I h
 exact wpAny_Expr_any (aM (he s σ H _ I h) fun v s1 hz_=>ae.el hz_ _ fun x H1 I1 r1 q1=>⟨σ,H1,I1,q1⟩) I.quiet hs
noncomputable def ES (te:TE):TS:=fun D σ H=>te σ H D.rt
theorem aX (he:PE X e te):PS X (.Return (some e) pos) (ES te):=by
 intro pins s σ H D I h
 exact wpAny_Return_some (aM (he s σ H _ I h) fun v s1 hz_=>ae.el hz_ _ fun x H1 I1 r1 q1=>⟨x,σ,H1,I1,r1,q1⟩)
noncomputable def nU (c:TT)(t u:TS):TS:=fun D σ H=>c σ H fun b H1=>if b=true then t D σ H1 else u D σ H1
theorem cR {c:Expr}{a b:List Stmt}{tc:TT}(hc:PT X c tc)(ha:qW X a t)(hb:qW X b u):PS X (.If c a b pos) (nU tc t u):=by
 intro pins s σ H D I h
 refine wpAny_If (aM (hc s σ H _ I h) fun d s1 hz_ =>?_)
 refine ae.el hz_ _ ?_
 clear hz_
 rintro H1 I1 q1
 cases d with
 | true=>exact ha s1 σ H1 D I1 q1
 | false=>exact hb s1 σ H1 D I1 q1
end
noncomputable abbrev TG:=V->St->Hp->(St->Hp->Prop)->Prop
noncomputable abbrev qP:=List V->St->Hp->(St->Hp->Prop)->Prop
noncomputable def PG (X:Cx)(target:Expr)(t:TG):Prop:=
 ∀ ⦃pins:List (Addr×Obj)⦄ (s:Shared) (σ:St) (H:Hp) (v:V) (u:Value) (Q:St->Hp->Prop),Inv X pins σ H s->RelV v u->t v σ H Q ->
  wpAny (model X.prog X.w) X.A (assign target X.env u) (fun _ s'=>bV fun σ' H'=>Inv X pins σ' H' s'/\Q σ' H') X.xe s
noncomputable def Bn (X:Cx)(ts:List Expr)(t:qP):Prop:=
 ∀ ⦃pins:List (Addr×Obj)⦄ (s:Shared) (σ:St) (H:Hp) (vs:List V) (us:List Value) (Q:St->Hp->Prop),Inv X pins σ H s->Vals vs us->t vs σ H Q ->
  wpAny (model X.prog X.w) X.A (assignInOrder ((assignEach ts X.env).map (·.2)) us) (fun _ s'=>bV fun σ' H'=>Inv X pins σ' H' s'/\Q σ' H') X.xe s
noncomputable abbrev za:=V->V->V->Hp->(Hp->Prop)->Prop
noncomputable def CC (X:Cx)(t:za):Prop:=
 ∀ ⦃pins:List (Addr×Obj)⦄ (s:Shared) (σ:St) (H:Hp) (o i v:V) (ov iv u:Value) (Q:Hp->Prop),Inv X pins σ H s->RelV o ov->RelV i iv->RelV v u->t o i v H Q ->
  wpAny (model X.prog X.w) X.A (setItem ov iv u) (fun _ s'=>∃H',Inv X pins σ H' s'/\Q H') X.xe s
section
variable {X:Cx}{pos:Pos}
noncomputable def fC (i:Nat):TG:=fun v σ H Q=>Q (σ.set i (some v)) H
theorem ak {i:Nat}{x:Str}(hN:X.N.Nodup)(hi:X.N[i]? = some x)(hx:Loc X.env.scope x)(hf:X.fn x=true∨X.env.scope.names.lookup x=some .local:=by first|exact .inl rfl|exact .inr rfl|assumption):PG X (.Name x pos) (fC i):=by
 intro pins s σ H v u Q I r h
 exact wpAny_assign_Name (mO I hN hi hx r (fun s' I'=>⟨_,H,I',h⟩) hf)
noncomputable def zq:qP:=fun vs σ H Q=>vs=[]/\Q σ H
noncomputable def sU (t:TG)(u:qP):qP:=fun vs σ H Q=>bV fun v r=>vs=v::r/\t v σ H fun σ' H'=>u r σ' H' Q
theorem cL:Bn X [] zq:=by
 intro pins s σ H vs us Q I r h
 obtain⟨e,h⟩:=h
 subst e
 cases r
 exact assignInOrder_nil ⟨σ,H,I,h⟩
theorem aJ {e:Expr}{es:List Expr}{t:TG}{u:qP}(h1:PG X e t)(h2:Bn X es u)
  (hs:(assignEach (e::es) X.env).map (·.2)=assign e X.env::(assignEach es X.env).map (·.2):=by rfl):Bn X (e::es) (sU t u):=by
 intro pins s σ H vs us Q I r h
 obtain⟨v,vr,e1,h⟩:=h
 subst e1
 cases r with
 | cons r rr=>
  rw[hs]
  refine assignInOrder_cons (aM (h1 s σ H _ _ _ I r h) fun _ s1 hz_ =>?_)
  refine ae.el hz_ _ ?_
  clear hz_
  rintro σ1 H1 I1 q1
  exact h2 s1 σ1 H1 _ _ Q I1 rr q1
noncomputable def zy (K:Jd)(n:Nat)(t:qP):TG:=fun v σ H Q=>bV fun a xs=>v = .ref a/\iC K H a xs/\xs.length=n/\t xs σ H Q
theorem ya {es:List Expr}{k:Nat}{t:qP}{n:Nat}(hc:X.calm=true)(h:Bn X es t)
  (hn:(assignEach es X.env).length=n:=by rfl) (gc:(assignEach es X.env).findIdx? (·.1)=none:=by rfl):PG X (.Tuple es k pos) (zy X.K n t):=by
 intro pins s σ H v u Q I r hw
 obtain⟨a,xs,e1,hq,hl,hw⟩:=hw
 subst e1
 cases r
 obtain⟨au,rv,ht,hz⟩:=I.tuple hq
 refine assign_Tuple_tuple (I.ok.hd hc) ht (by simp[hn,<-hl,rv.length]) gc fun h' hx =>?_
 have I1:Inv X pins σ H { s with heap:=h' }:=I.kept (t':=s.toks) fun b o e=>hx b o (J5 (Jm e)) e
 exact h _ σ H xs _ Q I1 (by simpa using rv) hw
noncomputable def FR (to ti:TE)(t:za):TG:=fun v σ H Q=>to σ H fun o H1=>ti σ H1 fun i H2=>t o i v H2 fun H3=>Q σ H3
theorem yI {o i:Expr}{to ti:TE}{t:za}(ho:PE X o to)(hi:PE X i ti)(hs:CC X t)
  (ha:∀v,assign (.Subscript o i pos) X.env v=(do
   let ov <-holding [v] (eval o X.env)
   let iv <-holding [v,ov] (eval i X.env)
   standAt pos
   holding [v,ov,iv] (setItem ov iv v)
   release [v,ov,iv] []):=by intro _;rfl):PG X (.Subscript o i pos) (FR to ti t):=by
 intro pins s σ H v u Q I r h
 rw[ha]
 refine wpAny_bind (wpAny_holding (aM (ho s σ H _ I h) fun ov s1 hz_ =>?_))
 refine ae.el hz_ _ ?_
 clear hz_
 rintro x H1 I1 r1 q1
 refine wpAny_bind (wpAny_holding (aM (hi s1 σ H1 _ I1 q1) fun iv s2 hz_ =>?_))
 refine ae.el hz_ _ ?_
 clear hz_
 rintro y H2 I2 r2 q2
 refine wpAny_bind (wpAny_standAt (wpAny_bind (wpAny_holding (aM (hs s2 σ H2 x y v ov iv u _ I2 r1 r2 r q2) fun _ s3 hz_ =>?_))))
 refine ae.el hz_ _ ?_
 clear hz_
 rintro H3 I3 q3
 exact wpAny_release ⟨σ,H3,I3,q3⟩
noncomputable def q5 (te:TE)(g:TG):TS:=fun D σ H=>te σ H fun x H1=>g x σ H1 D.nx
theorem pd {tg e:Expr}{te:TE}{g:TG}(he:PE X e te)(hg:PG X tg g)(hs:swapsWithSole [tg] e pos.line X.env=pure false:=by rfl)(hw:swappedStores [tg] e X.env=pure none:=by rfl)
  (h1:(assignEach [tg] X.env).map (·.2)=[assign tg X.env]:=by rfl):PS X (.Assign [tg] e pos) (q5 te g):=by
 intro pins s σ H D I h
 refine wpAny_Assign_stores (aM (he s σ H _ I h) fun v s1 hz_=>ae.el hz_ _ fun x H1 I1 r1 q1 =>?_) hs hw
 rw[h1]
 exact aM (hg s1 σ H1 x v _ I1 r1 q1) fun _ s2 q=>q
theorem aG {i:Nat}{x:Str}{e:Expr}{te:TE}{pos':Pos}(hN:X.N.Nodup)(hi:X.N[i]? = some x)(hx:Loc X.env.scope x)(he:PE X e te)(hs:swapsWith e (some (.Name x pos')) pos.line X.env=pure false:=by rfl)(hf:X.fn x=true∨X.env.scope.names.lookup x=some .local:=by first|exact .inl rfl|exact .inr rfl|assumption):
  PS X (.Assign [.Name x pos'] e pos) (q5 te (fC i)):=by
 intro pins s σ H D I h
 refine wpAny_Assign_Name (aM (he s σ H _ I h) fun v s1 hz_=>ae.el hz_ _ fun y H1 I1 r1 q1 =>?_) hs
 exact mO I1 hN hi hx r1 (fun s2 I2=>⟨_,H1,I2,q1⟩) hf
end
section
variable {X:Cx}{pos:Pos}
noncomputable def ig (c:TT)(tb:TS):TS:=fun D σ H=>∃W:Nat->St->Hp->Prop,(∃m,W m σ H)/\∀m σ H,W m σ H ->
 c σ H fun b H1=>if b=true then ∃N:St->Hp->Prop,(∀ σ' H',N σ' H'->∃m',m'<m/\W m' σ' H')/\tb { D with nx:=N,ct:=N,bk:=D.nx } σ H1 else D.nx σ H1
theorem gF {c:Expr}{body:List Stmt}{tc:TT}{tb:TS}(hp:PassesOwn (model X.prog X.w) X.A X.env X.xe)(hc:PT X c tc)(hb:qW X body tb):PS X (.While c body [] pos) (ig tc tb):=by
 intro pins s σ H D I h
 obtain⟨W,⟨m0,w0⟩,turn⟩:=h
 refine wpAny_While (codeAny_whileLoop (fun n s'=>∃ σ' H',Inv X pins σ' H' s'/\W n σ' H') ?_ m0 ⟨σ,H,I,w0⟩)
 rintro n s1 ⟨σ1,H1,I1,w1⟩
 refine wpAny_passesOwn hp (aM (hc s1 σ1 H1 _ I1 (turn n σ1 H1 w1)) fun b s2 hz_ =>?_)
 refine ae.el hz_ _ ?_
 clear hz_
 rintro H2 I2 q2
 cases b with
 | true=>
  obtain⟨N,hN,q2⟩:=q2
  rw[if_pos rfl]
  refine wpAny_passesOwn hp (aM (hb s2 σ1 H2 _ I2 q2) fun f s3 q3 =>?_)
  cases f with
  | next=>
   obtain⟨σ3,H3,I3,n3⟩:=q3
   obtain⟨m',hm,w3⟩:=hN σ3 H3 n3
   exact⟨m',hm,σ3,H3,I3,w3⟩
  | cont=>
   obtain⟨σ3,H3,I3,n3⟩:=q3
   obtain⟨m',hm,w3⟩:=hN σ3 H3 n3
   exact⟨m',hm,σ3,H3,I3,w3⟩
  | brk=>exact q3
  | ret v=>exact q3
 | false=>
  rw[if_neg Jk]
  exact wpAny_execs_nil ⟨σ1,H2,I2,q2⟩
end
structure It where
 go:Nat->Hp->Prop
 yld:Nat->Hp->V->Hp->Prop
 stop:Nat->Hp->Prop
noncomputable def dB (X:Cx)(pins:List (Addr×Obj))(H:Hp)(b:Addr):Prop:=
 H b=none/\b≠X.env.locals/\b∉X.fs/\(b∈X.ex∨X.s₀.heap.objs.size<=b)/\(∀x c,X.env.cells.lookup x=some c->c≠b)/\∀p∈X.pn++pins,p.1≠b
theorem Inv.iE {X:Cx}{pins:List (Addr×Obj)}{σ:St}{H H':Hp}{s:Shared}{b:Addr}(I:Inv X pins σ H s)(hb:s.heap.objs.size<=b)(hn:H' b=none):dB X pins H' b:=by
 refine⟨hn,Wb (Jy I.lt hb),I.BA hb,.inr (Jq I.sz hb),fun x c e z =>?_,fun p hp z =>?_⟩
 ·obtain⟨v,q⟩:=I.cell x c e
  exact absurd (Jy q.lt (by rw[z];exact hb)) (U6 _)
 ·exact absurd (Jy (Jm (I.pin p hp).1) (by rw[z];exact hb)) (U6 _)
structure Turn (P:Program)(w:World)(K:Jd)(tg:Expr)(J:It)(fp:List Addr)(it:Addr)(tn:Nat->Heap->Prop):Prop where
 mem:it∈fp
 obj:∀i h,tn i h->∀b∈fp,∃o,h.get? b=some o/\∀v,o.data ≠ .cell v
 keep:∀i h h',tn i h->(∀b∈fp,∀o,h.get? b=some o->h'.get? b=some o)->tn i h'
 item:∀(X:Cx),X.prog=P->X.w=w->X.K=K->X.calm=true->∀(i:Nat) (pins:List (Addr×Obj)) (s:Shared) (σ:St) (H:Hp) (E:Value->Shared->Prop),Inv X pins σ H s->(∀b∈fp,dB X pins H b)->tn i s.heap->J.go i H ->
  wpAny (model P w) X.A (pyNext (.ref it)) (fun r s1=>∃u,r=some u /\
   wpAny (model P w) X.A (letOwnedTupleGo tg (.ref it) u) (fun _ s2=>∃x H',Inv X pins σ H' s2/\RelV x u/\J.yld i H x H'/\tn (i+1) s2.heap/\∀b∈fp,H' b=none) E s1) E s
 done:∀(X:Cx),X.prog=P->X.w=w->X.K=K->X.calm=true->∀(i:Nat) (pins:List (Addr×Obj)) (s:Shared) (σ:St) (H:Hp) (E:Value->Shared->Prop),Inv X pins σ H s->(∀b∈fp,dB X pins H b)->tn i s.heap->J.stop i H ->
  wpAny (model P w) X.A (pyNext (.ref it)) (fun r s1=>r=none/\Inv X pins σ H s1) E s
 self:∀(A:Around) (i:Nat) (s:Shared) (Q:Value->Shared->Prop) (E:Value->Shared->Prop),tn i s.heap->Q (.ref it) s->wpAny (model P w) A (pyIter (.ref it)) Q E s
noncomputable abbrev TI:=St->Hp->(It->Hp->Prop)->Prop
noncomputable def HL (X:Cx)(pins:List (Addr×Obj))(σ:St)(tg:Expr)(R:It->Hp->Prop)(Ae:Value)(s2:Shared):Prop:=
 xU fun(it:Addr) (fp:List Addr) (tn:Nat->Heap->Prop) (J:It) (H':Hp)=>Ae = .ref it/\Inv X pins σ H' s2/\Turn X.prog X.w X.K tg J fp it tn/\tn 0 s2.heap/\(∀b∈fp,dB X pins H' b)/\R J H'
noncomputable def PI (X:Cx)(tg iter:Expr)(wi:TI):Prop:=
 ∀ ⦃pins:List (Addr×Obj)⦄ (s:Shared) (σ:St) (H:Hp) (R:It->Hp->Prop),Inv X pins σ H s->wi σ H R ->
  wpAny (model X.prog X.w) X.A (eval iter X.env) (fun v s1=>wpAny (model X.prog X.w) X.A (pyIter v) (HL X pins σ tg R) X.xe s1) X.xe s
theorem qo {M:Model}{A:Around}{E:Value->Shared->Prop}{s:Shared}{tg:Expr}{it:Addr}{u:Value}{o:Obj}{n:String}{vs:Array Value}{Q:Unit->Shared->Prop}(ho:s.heap.get? it=some o)(hc:o.cls = .type n)(hd:o.data = .fields vs)
  (hn:["enumerate", "zip", "dict_itemiterator", "dict_reverseitemiterator", "odict_iterator", "itertools.zip_longest", "itertools.pairwise"].contains n=false) (hQ:Q () s):wpAny M A (letOwnedTupleGo tg (.ref it) u) Q E s:=by
 unfold letOwnedTupleGo
 cases tg<;>first
  | exact wpAny_pure hQ
  | (cases u<;>first
    | exact wpAny_pure hQ
    | (refine wpAny_bind (wpAny_load ho ?_)
       rw[hc,hd]
       show wpAny M A (if (["enumerate", "zip", "dict_itemiterator", "dict_reverseitemiterator", "odict_iterator", "itertools.zip_longest", "itertools.pairwise"].contains n&&vs[0]? == some (rawInt _))=true then _ else _) Q E s
       rw[if_neg (by intro h;rw[hn,Bool.false_and] at h;cases h)]
       exact wpAny_pure hQ))
noncomputable def Hf (K:Jd)(a:Addr):It:=
 ⟨fun i H=>bV fun xs x=>aB K H a xs/\xs[i]? = some x,fun i H x H'=>H'=H/\∀xs,aB K H a xs->xs[i]? = some x,fun i H=>∃xs,aB K H a xs/\xs.length<=i⟩
noncomputable def zZ (lo:Int)(n:Nat):It:=⟨fun i _=>i<n,fun i H x H'=>H'=H/\x = .int (lo+i),fun i _=>n<=i⟩
theorem qE {P:Program}{w:World}{K:Jd}{tg:Expr}(a it:Addr):Turn P w K tg (Hf K a) [it] it (fun i h=>h.IsListIter it a i) where
 mem:=by simp
 obj:=fun i h st b hb=>by
  have e:b=it:=by simpa using hb
  subst e
  obtain⟨o,e,c,d⟩:=st
  exact⟨o,e,fun v z=>by rw[d] at z;cases z⟩
 keep:=fun i h h' st k=>st.at fun o e=>k it (by simp) o e
 item:=by
  intro X hP hw hK hc i pins s σ H E I hf st hg
  subst hP hw hK
  obtain⟨xs,x,hq,hx⟩:=hg
  obtain⟨au,rv,p,hz⟩:=I.list hq
  obtain⟨u,hu,ru⟩:=rv.get hx
  obtain⟨f0,f1,f2,f3,f4,f5⟩:=hf it (by simp)
  refine wpAny_pyNext_list_item st p.isList (x:=u) (by simpa using hu) fun h' av sb =>?_
  have I1:Inv X pins σ H { s with heap:=h' }:=I.turned (t':=s.toks) (fun b o hb e=>(sb.2 b hb).trans e) f0 f1 f3 f4 f5
  obtain⟨o,e,c,d⟩:=id av
  exact⟨u,rfl,qo (s:={ s with heap:=h' }) e c d (by decide) ⟨x,H,I1,ru,⟨rfl,fun ys hy=>by rw[I.sR hy hq];exact hx⟩,av,fun b hb=>(hf b hb).1⟩⟩
 done:=by
  intro X hP hw hK hc i pins s σ H E I hf st hg
  subst hP hw hK
  obtain⟨xs,hq,hx⟩:=hg
  obtain⟨au,rv,p,hz⟩:=I.list hq
  obtain⟨f0,f1,f2,f3,f4,f5⟩:=hf it (by simp)
  have hl:=rv.length
  exact wpAny_pyNext_list_end (I.ok.hd hc) st p.isList (by simp;omega) fun h' eb=>⟨rfl,I.turned (t':=s.toks) (fun b o hb e=>eb b o hb e) f0 f1 f3 f4 f5⟩
 self:=fun _ _ _ _ _ st h=>wpAny_pyIter_listiter st h
theorem om {P:Program}{w:World}{K:Jd}{tg:Expr}(it:Addr)(lo:Int)(n:Nat):Turn P w K tg (zZ lo n) [it] it (fun i h=>IsRangeIter h it (lo+(i:Nat)*1) ((n:Int)-(i:Nat)) 1) where
 mem:=by simp
 obj:=fun i h st b hb=>by
  have e:b=it:=by simpa using hb
  subst e
  exact⟨_,st,fun v z=>by
   have z':Data.fields _=Data.cell v:=z
   cases z'⟩
 keep:=fun i h h' st k=>k it (by simp) _ st
 item:=by
  intro X hP hw hK hc i pins s σ H E I hf st hg
  subst hP hw hK
  obtain⟨f0,f1,f2,f3,f4,f5⟩:=hf it (by simp)
  have W:=Walks.range (prog:=X.prog) (w:=X.w) (I.ok.hd hc) it lo 1 n
  refine W.item i s _ _ hg st fun v h' tk hv av kk =>?_
  obtain⟨t,rfl⟩:=hv
  have I1:Inv X pins σ H { s with heap:=h',toks:=tk }:=I.turned (fun b o hb e=>kk b o (by simpa using hb) e) f0 f1 f3 f4 f5
  refine⟨_,rfl,qo (s:={ s with heap:=h',toks:=tk }) (n := "range_iterator") av rfl rfl (by decide) ⟨.int (lo+i),H,I1,⟨t,?_⟩,⟨rfl,rfl⟩,av,fun b hb=>(hf b hb).1⟩⟩
  rw[Int.mul_one]
 done:=by
  intro X hP hw hK hc i pins s σ H E I hf st hg
  subst hP hw hK
  obtain⟨f0,f1,f2,f3,f4,f5⟩:=hf it (by simp)
  exact wpAny_pyNext_range_end (I.ok.hd hc) st (by have:n<=i:=hg;omega) fun h' eb=>⟨rfl,I.turned (t':=s.toks) (fun b o hb e=>eb b o hb e) f0 f1 f3 f4 f5⟩
 self:=fun _ _ _ _ _ st h=>wpAny_pyIter_rangeiter st h
section
variable {X:Cx}{tg:Expr}
noncomputable def xy (K:Jd)(tl:TE):TI:=fun σ H R=>tl σ H fun x H1=>∃a,x = .ref a/\(∃xs,aB K H1 a xs)/\R (Hf K a) H1
theorem xa {l:Expr}{tl:TE}(hl:PE X l tl):PI X tg l (xy X.K tl):=by
 intro pins s σ H R I h
 refine aM (hl s σ H _ I h) fun v s1 hz_ =>?_
 refine ae.el hz_ _ ?_
 clear hz_
 rintro x H1 I1 r1 q1
 obtain⟨a,e,⟨xs,hq⟩,q⟩:=q1
 subst e
 cases r1
 obtain⟨au,rv,p,hz⟩:=I1.list hq
 refine wpAny_pyIter_list p.isList ?_
 refine⟨s1.heap.objs.size,[s1.heap.objs.size],_,_,H1,rfl,I1.kept (t':=s1.toks) fun b o e=>Jc _ e,qE a _,⟨_,Js _ rfl,rfl,rfl⟩,fun b hb =>?_,q⟩
 have e:b=s1.heap.objs.size:=by simpa using hb
 subst e
 exact I1.iE (Je _) (I1.aN.fresh (Je _))
theorem mq {pins:List (Addr×Obj)}{σ:St}{H:Hp}{s:Shared}{R:It->Hp->Prop}{E:Value->Shared->Prop}{lo hi:Int}{t u v:Tok}{tk:Nat}(I:Inv X pins σ H s)(h1: -(2^62)<=lo)(h2:lo<2^62)(h3: -(2^62)<=hi)(h4:hi<2^62)
  (q:R (zZ lo (hi-lo).toNat) H):wpAny (model X.prog X.w) X.A (pyIter (.ref s.heap.objs.size)) (HL X pins σ tg R) E { s with heap:=s.heap.push { cls := .type "range",data := .fields #[.int lo t,.int hi u,.int 1 v] },toks:=tk }:=by
 refine wpAny_pyIter_range (IsRange.new ..) (small_one h1 h2 h3 h4) ?_
 have I1:Inv X pins σ H { s with heap:=s.heap.push { cls := .type "range",data := .fields #[.int lo t,.int hi u,.int 1 v] },toks:=tk }:=I.kept fun b o e=>Jc _ e
 refine⟨(s.heap.push { cls := .type "range",data := .fields #[.int lo t,.int hi u,.int 1 v] }).objs.size,[(s.heap.push { cls := .type "range",data := .fields #[.int lo t,.int hi u,.int 1 v] }).objs.size],_,_,H,rfl,
  I1.kept (t':=tk) fun b o e=>Jc _ e,om _ lo (hi-lo).toNat,?_,fun b hb =>?_,q⟩
 ·have e1:lo+((0:Nat):Int)*1=lo:=by simp
  have e2:(((hi-lo).toNat:Nat):Int)-((0:Nat):Int)=Builtin.Range.rangeSize lo hi 1:=by rw[rangeSize_one];split<;>omega
  show IsRangeIter _ _ (lo+((0:Nat):Int)*1) ((((hi-lo).toNat:Nat):Int)-((0:Nat):Int)) 1
  rw[e1,e2]
  exact Js _ rfl
 ·have e:b=(s.heap.push { cls := .type "range",data := .fields #[.int lo t,.int hi u,.int 1 v] }).objs.size:=by simpa using hb
  subst e
  exact I1.iE (Je _) (I1.aN.fresh (Je _))
noncomputable def BJ (ta:TA):TI:=fun σ H R=>ta σ H fun vs H1=>∃j:Int,vs=[.int j] /\ -(2^62)<=j/\j<2^62/\R (zZ 0 j.toNat) H1
noncomputable def CU (ta:TA):TI:=fun σ H R=>ta σ H fun vs H1=>∃i j:Int,vs=[.int i,.int j]/\(-(2^62)<=i/\i<2^62 /\ -(2^62)<=j/\j<2^62)/\R (zZ i (j-i).toNat) H1
theorem dg {a:Expr}{ta:TA}{p pos:Pos}(hg:Gl X "range")(hm:X.mg "range" = none)(ha:PA X [a] ta)(hs:starEach [a] X.env=[(false,eval a X.env)]:=by rfl):PI X tg (.Call (.Name "range" p) [a] [] pos) (BJ ta):=by
 intro pins s σ H R I h
 refine Call_ (e9 I hg hm boot_range (PyProof.Rows.callWith_type1 (aM (ha s σ H _ I h) fun us s1 hz_=>ae.el hz_ _ fun vs H1 I1 r1 q1 =>?_) hs rfl))
 obtain⟨j,e,q1,q2,q⟩:=q1
 subst e
 cases r1 with
 | cons r rr=>
  cases rr
  obtain⟨t,rfl⟩:=r
  exact call_range_1 (mq I1 (by omega) (by omega) q1 q2 (by simpa using q))
theorem gW {a b:Expr}{ta:TA}{p pos:Pos}(hg:Gl X "range")(hm:X.mg "range" = none)(ha:PA X [a,b] ta)(hs:starEach [a,b] X.env=[(false,eval a X.env),(false,eval b X.env)]:=by rfl)(v7:starEach [b] X.env=[(false,eval b X.env)]:=by rfl):
  PI X tg (.Call (.Name "range" p) [a,b] [] pos) (CU ta):=by
 intro pins s σ H R I h
 refine Call_ (e9 I hg hm boot_range (PyProof.Rows.callWith_type1 (aM (ha s σ H _ I h) fun us s1 hz_=>ae.el hz_ _ fun vs H1 I1 r1 q1 =>?_) (by rw[hs,v7]) (by rw[v7];rfl)))
 obtain⟨i,j,e,⟨q1,q2,q3,q4⟩,q⟩:=q1
 subst e
 cases r1 with
 | cons r rr=>
  cases rr with
  | cons r' rr=>
   cases rr
   obtain⟨t,rfl⟩:=r
   obtain⟨t',rfl⟩:=r'
   exact call_range_2 (mq I1 q1 q2 q3 q4 q)
noncomputable def lA (wi:TI)(g:TG)(tb:TS):TS:=fun D σ H=>wi σ H fun J H1=>∃W:Nat->Nat->St->Hp->Prop,(∃m,W 0 m σ H1)/\∀i m σ H,W i m σ H ->
 (J.stop i H/\D.nx σ H)∨(J.go i H/\∃N:St->Hp->Prop,(∀ σ' H',N σ' H'->∃m',m'<m/\W (i+1) m' σ' H')/\∀x H',J.yld i H x H'->g x σ H' fun σ2 H2=>tb { D with nx:=N,ct:=N,bk:=D.nx } σ2 H2)
noncomputable def dq (fp:List Addr)(h:Heap):List (Addr×Obj):=fp.filterMap fun b=>(h.get? b).map fun o=>(b,o)
theorem bw {fp:List Addr}{h:Heap}{b:Addr}{o:Obj}(hb:b∈fp)(e:h.get? b=some o):(b,o)∈dq fp h:=List.mem_filterMap.mpr ⟨b,hb,by rw[e];rfl⟩
theorem kh {fp:List Addr}{h:Heap}{p:Addr×Obj}(hp:p∈dq fp h):p.1∈fp/\h.get? p.1=some p.2:=by
 obtain⟨b,hb,e⟩:=List.mem_filterMap.mp hp
 cases q:h.get? b with
 | none=>rw[q] at e;cases e
 | some o=>
  rw[q] at e
  have e':(b,o)=p:=Option.some.inj e
  subst e'
  exact⟨hb,q⟩
theorem Inv.pinned {pins:List (Addr×Obj)}{σ:St}{H:Hp}{s:Shared}{fp:List Addr}(I:Inv X pins σ H s)(hf:∀b∈fp,dB X pins H b)(ho:∀b∈fp,∃o,s.heap.get? b=some o/\∀v,o.data ≠ .cell v):Inv X (pins++dq fp s.heap) σ H s:=
 I.iR fun p hp=>(Jj.mp hp).elim (fun z=>I.pin p (Ji _ z)) fun z=>by
  obtain⟨hb,e⟩:=kh z
  obtain⟨f0,f1,f2,_⟩:=hf p.1 hb
  obtain⟨o,e',d⟩:=ho p.1 hb
  rw[e] at e';cases e'
  exact⟨e,f0,f1,f2,d⟩
theorem Inv.cQ {pins pl:List (Addr×Obj)}{σ:St}{H:Hp}{s:Shared}(I:Inv X (pins++pl) σ H s):Inv X pins σ H s:=I.iR fun p hp=>I.pin p (Ji _ (Jx _ hp))
theorem cT {iter:Expr}{body:List Stmt}{wi:TI}{g:TG}{tb:TS}{pos:Pos}(hp:PassesOwn (model X.prog X.w) X.A X.env X.xe)(hc:X.calm=true)(hi:PI X tg iter wi)(hg:PG X tg g)(hb:qW X body tb)
  (hs:∀x,foldedSetIterable iter X.env x=pure x:=by intro _;rfl):PS X (.For tg iter body [] pos) (lA wi g tb):=by
 intro pins s σ H D I h
 refine wpAny_For (aM (hi s σ H _ I h) fun v s1 h1=>aM h1 fun Ae s2 h2 =>?_) hs
 obtain⟨it,fp,tn,J,H2,e,I2,T,bz,f2,W,⟨m0,w0⟩,turn⟩:=h2
 subst e
 have eg:∀{H':Hp},(∀b∈fp,H' b=none)->∀b∈fp,dB X pins H' b:=fun hn b hb=>⟨hn b hb,(f2 b hb).2⟩
 refine codeAny_forLoop_any (fun n s'=>∃i σ' H',Inv X pins σ' H' s'/\tn i s'.heap/\(∀b∈fp,H' b=none)/\W i n σ' H') ?_ m0 ⟨0,σ,H2,I2,bz,fun b hb=>(f2 b hb).1,w0⟩
 rintro n s3 ⟨i,σ3,H3,I3,cv,fr3,w3⟩
 rcases turn i n σ3 H3 w3 with ⟨stop,qn⟩|⟨go,N,hN,step⟩
 ·refine wpAny_passesOwn hp (aM (T.done X rfl rfl rfl hc i pins s3 σ3 H3 X.xe I3 (eg fr3) cv stop) fun r s4 hz_ =>?_)
  refine ae.el hz_ _ ?_
  clear hz_
  rintro hr I4
  subst hr
  exact wpAny_execs_nil ⟨σ3,H3,I4,qn⟩
 ·refine wpAny_passesOwn hp (aM (T.item X rfl rfl rfl hc i pins s3 σ3 H3 X.xe I3 (eg fr3) cv go) fun r s4 hz_ =>?_)
  refine ae.el hz_ _ ?_
  clear hz_
  rintro u hr h4
  subst hr
  refine wpAny_passesOwn hp (aM h4 fun _ s5 hz_=>ae.el hz_ _ fun x H5 I5 r5 y5 cG fr5 =>?_)
  have v5:=I5.pinned (eg fr5) (T.obj _ _ cG)
  refine wpAny_passesOwn hp (aM (hg s5 σ3 H5 x u _ v5 r5 (step x H5 y5)) fun _ s6 hz_ =>?_)
  refine ae.el hz_ _ ?_
  clear hz_
  rintro σ6 H6 I6 q6
  refine wpAny_passesOwn hp (aM (hb s6 σ6 H6 _ I6 q6) fun f s7 q7 =>?_)
  have again:∀{σ7:St} {H7:Hp},Inv X (pins++dq fp s5.heap) σ7 H7 s7->N σ7 H7->∃m,m<n/\∃i σ' H',Inv X pins σ' H' s7/\tn i s7.heap/\(∀b∈fp,H' b=none)/\W i m σ' H':=fun{σ7 H7} I7 n7=>by
   obtain⟨m',hm,w7⟩:=hN σ7 H7 n7
   refine⟨m',hm,i+1,σ7,H7,I7.cQ,T.keep _ _ _ cG fun b hb o e=>(I7.pin (b,o) (Ji _ (Ji _ (bw hb e)))).1,fun b hb =>?_,w7⟩
   obtain⟨o,e,d⟩:=T.obj _ _ cG b hb
   exact(I7.pin (b,o) (Ji _ (Ji _ (bw hb e)))).2.1
  cases f with
  | next=>obtain⟨σ7,H7,I7,n7⟩:=q7;exact again I7 n7
  | cont=>obtain⟨σ7,H7,I7,n7⟩:=q7;exact again I7 n7
  | brk=>obtain⟨σ7,H7,I7,q7⟩:=q7;exact⟨σ7,H7,I7.cQ,q7⟩
  | ret v=>obtain⟨x7,σ7,H7,I7,r7,q7⟩:=q7;exact⟨x7,σ7,H7,I7.cQ,r7,q7⟩
end
theorem kN {lo:Int}{n:Nat}{g:TG}{tb:TS}{D:Ends}{σ:St}{H:Hp}(Pv:Nat->St->Hp->Prop)(h0:Pv 0 σ H)
  (hs:∀i σ H,i<n->Pv i σ H->g (.int (lo+i)) σ H fun σ2 H2=>tb { D with nx:=Pv (i+1),ct:=Pv (i+1),bk:=D.nx } σ2 H2) (hd:∀ σ H,Pv n σ H->D.nx σ H) :
  ∃W:Nat->Nat->St->Hp->Prop,(∃m,W 0 m σ H)/\∀i m σ H,W i m σ H ->
   ((zZ lo n).stop i H/\D.nx σ H)∨((zZ lo n).go i H/\∃N:St->Hp->Prop,(∀ σ' H',N σ' H'->∃m',m'<m/\W (i+1) m' σ' H')/\∀x H',(zZ lo n).yld i H x H'->g x σ H' fun σ2 H2=>tb { D with nx:=N,ct:=N,bk:=D.nx } σ2 H2):=by
 refine⟨fun i m σ H=>m=n-i/\i<=n/\Pv i σ H,⟨n,by simp,Um _,h0⟩,?_⟩
 rintro i m σ H ⟨rfl,hi,p⟩
 by_cases bP:i<n
 ·refine .inr ⟨bP,Pv (i+1),fun σ' H' p'=>⟨n-(i+1),by omega,rfl,bP,p'⟩,fun x H' y =>?_⟩
  obtain⟨e,y⟩:=y
  subst e y
  exact hs i σ _ bP p
 ·have e:i=n:=by omega
  subst e
  exact .inl ⟨Je _,hd σ H p⟩
noncomputable abbrev R2:=V->V->Hp->VK->Prop
noncomputable def dC (X:Cx)(f:Value->Value->Sem Value)(r:R2):Prop:=
 ∀ ⦃pins:List (Addr×Obj)⦄ (s:Shared) (σ:St) (H:Hp) (x y:V) (v u:Value) (Q:VK),Inv X pins σ H s->RelV x v->RelV y u->r x y H Q ->
  wpAny (model X.prog X.w) X.A (f v u) (EP X pins σ Q) X.xe s
noncomputable def bN (X:Cx)(f:Value)(r:List V->Hp->VK->Prop):Prop:=
 ∀ ⦃pins:List (Addr×Obj)⦄ (s:Shared) (σ:St) (H:Hp) (xs:List V) (us:List Value) (Q:VK),Inv X pins σ H s->Vals xs us->r xs H Q ->
  wpAny (model X.prog X.w) X.A (call f us) (EP X pins σ Q) X.xe s
noncomputable def Gx (X:Cx)(r:V->Hp->(Bool->Hp->Prop)->Prop):Prop:=
 ∀ ⦃pins:List (Addr×Obj)⦄ (s:Shared) (σ:St) (H:Hp) (x:V) (v:Value) (Q:Bool->Hp->Prop),Inv X pins σ H s->RelV x v->r x H Q ->
  wpAny (model X.prog X.w) X.A (truthy v) (TP X pins σ Q) X.xe s
noncomputable def Ci (r:R2)(ta tb:TE):TE:=fun σ H Q=>ta σ H fun x H1=>tb σ H1 fun y H2=>r x y H2 Q
noncomputable def rI (C:Int->Int->Prop)(g:Int->Int->V):R2:=fun x y H Q=>bV fun i j=>x = .int i/\y = .int j/\C i j/\Q (g i j) H
noncomputable def yz (g:Int->Int->V):R2:=fun x y H Q=>bV fun i j=>x = .int i/\y = .int j/\Q (g i j) H
section
variable {X:Cx}{a b c:Expr}{ta tb tc:TE}{pos:Pos}
theorem zS (ha:PE X a ta)(hb:PE X b tb){pins:List (Addr×Obj)}{s:Shared}{σ:St}{H:Hp}{R:V->V->Hp->Prop}(I:Inv X pins σ H s)
  (h:ta σ H fun x H1=>tb σ H1 fun y H2=>R x y H2) {Q:Value->Shared->Prop} {f:Value->Value->Sem Value}
  (hf:∀v u s2 x y H2,Inv X pins σ H2 s2->RelV x v->RelV y u->R x y H2->wpAny (model X.prog X.w) X.A (f v u) Q X.xe s2) :
  wpAny (model X.prog X.w) X.A (eval a X.env) (fun v s₁=>wpAny (model X.prog X.w) X.A (eval b X.env) (fun u s₂=>wpAny (model X.prog X.w) X.A (f v u) Q X.xe s₂) X.xe s₁) X.xe s:=by
 refine aM (ha s σ H _ I h) fun v s1 hz_ =>?_
 refine ae.el hz_ _ ?_
 clear hz_
 rintro x H1 I1 r1 q1
 refine aM (hb s1 σ H1 _ I1 q1) fun u s2 hz_ =>?_
 refine ae.el hz_ _ ?_
 clear hz_
 rintro y H2 I2 r2 q2
 exact hf v u s2 x y H2 I2 r1 r2 q2
theorem aW {op:Operator}{r:R2}(ho:dC X (binaryOp op) r)(ha:PE X a ta)(hb:PE X b tb):PE X (.BinOp a op b pos) (Ci r ta tb):=by
 intro pins s σ H Q I h
 exact wpAny_BinOp (zS ha hb I h fun v u s2 x y H2 I2 rx ry q=>ho s2 σ H2 x y v u Q I2 rx ry q)
theorem C3 {f:Value->Value->Sem Value}{C:Int->Int->Prop}{g:Int->Int->Int}
  (rule:∀(i j:Int) (t u:Tok) (s:Shared) (Q:Value->Shared->Prop) (E:Value->Shared->Prop),C i j->Q (.int (g i j) s.toks) { s with toks:=s.toks+1 } -> wpAny (model X.prog X.w) X.A (f (.int i t) (.int j u)) Q E s) :
  dC X f (rI C fun i j =>.int (g i j)):=by
 intro pins s σ H x y v u Q I rx ry h
 obtain⟨i,j,rfl,rfl,hc,q⟩:=h
 obtain⟨t,rfl⟩:=rx
 obtain⟨t',rfl⟩:=ry
 exact rule i j t t' s _ _ hc ⟨.int (g i j),H,I.tok _,⟨_,rfl⟩,q⟩
theorem EC {f:Value->Value->Sem Value}{g:Int->Int->Int}
  (rule:∀(i j:Int) (t u:Tok) (s:Shared) (Q:Value->Shared->Prop) (E:Value->Shared->Prop),Q (.int (g i j) s.toks) { s with toks:=s.toks+1 } -> wpAny (model X.prog X.w) X.A (f (.int i t) (.int j u)) Q E s) :
  dC X f (yz fun i j =>.int (g i j)):=by
 intro pins s σ H x y v u Q I rx ry h
 obtain⟨i,j,rfl,rfl,q⟩:=h
 obtain⟨t,rfl⟩:=rx
 obtain⟨t',rfl⟩:=ry
 exact rule i j t t' s _ _ ⟨.int (g i j),H,I.tok _,⟨_,rfl⟩,q⟩
theorem yK {f:Value->Value->Sem Value}{g:Int->Int->Bool}
  (rule:∀(i j:Int) (t u:Tok) (s:Shared) (Q:Value->Shared->Prop) (E:Value->Shared->Prop),Q (.bool (g i j)) s->wpAny (model X.prog X.w) X.A (f (.int i t) (.int j u)) Q E s) :
  dC X f (yz fun i j =>.bl (g i j)):=by
 intro pins s σ H x y v u Q I rx ry h
 obtain⟨i,j,rfl,rfl,q⟩:=h
 obtain⟨t,rfl⟩:=rx
 obtain⟨t',rfl⟩:=ry
 exact rule i j t t' s _ _ ⟨.bl (g i j),H,I,rfl,q⟩
noncomputable def zf (i j:Int):Prop:=0<j/\j<1073741824
noncomputable def FX (i j:Int):Prop:=0<=j/\j<=1000000/\i.natAbs<2^64
noncomputable def oS (i j:Int):Prop:=(-(2^64)<i/\i<2^64)∨(-(2^64)<j/\j<2^64)
theorem oS.ok {i j:Int}(h:oS i j):IntMulOk i j:=by
 rcases h with ⟨h1,h2⟩|⟨h1,h2⟩
 ·exact .of_left (intBits_le_64 h1 h2)
 ·exact .of_right (intBits_le_64 h1 h2)
theorem zY:dC X (binaryOp .Add) (yz fun i j =>.int (i+j)):=EC fun _ _ _ _ _ _ _ q=>add_int q
theorem ze:dC X (binaryOp .Mult) (rI oS fun i j =>.int (i*j)):=C3 fun _ _ _ _ _ _ _ hc q=>mul_int q hc.ok
theorem wI:dC X (binaryOp .FloorDiv) (rI zf fun i j =>.int (i / j)):=C3 fun i j _ _ _ _ _ hc q=>by
 have h1:(0:Int)<j:=hc.1
 have h2:j<1073741824:=hc.2
 exact floordiv_int (by omega) (by rw[Int.fdiv_eq_ediv_of_nonneg i (by omega)];exact q) (.inl (PyProof.noPylong_small (by omega)))
theorem g5:dC X (binaryOp .Mod) (rI (fun _ j=>0<j) fun i j =>.int (i%j)):=C3 fun i j _ _ _ _ _ hc q=>by
 have h1:(0:Int)<j:=hc
 exact mod_int' (by omega) (by rw[Int.fmod_eq_emod_of_nonneg i (by omega)];exact q)
theorem Ab:dC X (binaryOp .Pow) (rI FX fun i j =>.int (i^j.toNat)):=C3 fun _ _ _ _ _ _ _ hc q=>pow_int_small hc.1 hc.2.1 hc.2.2 q
end
noncomputable def xW:V->V->Bool
 | .non,.non=>true | .non,.int _=>true | .int _,.non=>true | .non,.bl _=>true | .bl _,.non=>true | .non,.str _=>true | .str _,.non=>true
 | .int _,.int _=>true | .bl _,.bl _=>true | .str _,.str _=>true | .byt _,.byt _=>true
 | .int _,.str _=>true | .str _,.int _=>true | .bl _,.str _=>true | .str _,.bl _=>true
 | _,_=>false
noncomputable def EX:R2:=fun x y H Q=>xW x y=true/\Q (.bl (decide (x=y))) H
noncomputable def Eh:R2:=fun x y H Q=>xW x y=true/\Q (.bl (!decide (x=y))) H
theorem qq {i j:Int}:decide (V.int i=V.int j)=(i==j):=by
 rw[Bool.eq_iff_iff]
 simp
theorem sv {i j:Bool}:decide (V.bl i=V.bl j)=(i==j):=by
 rw[Bool.eq_iff_iff]
 simp
theorem pM {i j:Str}:decide (V.str i=V.str j)=(i==j):=by
 rw[Bool.eq_iff_iff]
 simp
theorem pP {i j:Array UInt8}:decide (V.byt i=V.byt j)=(i.toList==j.toList):=by
 rw[Bool.eq_iff_iff]
 cases i
 cases j
 simp
section
variable {X:Cx}{a b c:Expr}{ta tb tc:TE}{pos:Pos}
theorem aL {pins:List (Addr×Obj)}{σ:St}{H:Hp}{s:Shared}{Q:VK}{k k':Bool}(I:Inv X pins σ H s)(q:Q (.bl k) H)(e:k=k'):EP X pins σ Q (.bool k') s:=by
 subst e
 exact⟨.bl k,H,I,rfl,q⟩
theorem Bp:dC X (compareOp .Eq) EX:=by
 intro pins s σ H x y v u Q I rx ry h
 obtain⟨hs,q⟩:=h
 cases x with
 | non=>
  cases rx
  cases y with
  | non=>cases ry;exact PySem.EqNone.eq_none_none (aL I q (by simp))
  | bl j=>cases ry;exact PySem.EqNone.eq_none_bool (aL I q (by simp))
  | int j=>obtain⟨t',rfl⟩:=ry;exact PySem.EqNone.eq_none_int (aL I q (by simp))
  | str j=>obtain⟨t',rfl⟩:=ry;exact PySem.EqNone.eq_none_str (aL I q (by simp))
  | _=>exact absurd (show false=true from hs) Jk
 | bl i=>
  cases rx
  cases y with
  | non=>cases ry;exact PySem.EqNone.eq_bool_none (aL I q (by simp))
  | bl j=>cases ry;exact eq_bool (aL I q sv)
  | str j=>obtain⟨t',rfl⟩:=ry;exact PySem.EqMixed.eq_bool_str (aL I q (by simp))
  | _=>exact absurd (show false=true from hs) Jk
 | int i=>
  obtain⟨t,rfl⟩:=rx
  cases y with
  | non=>cases ry;exact PySem.EqNone.eq_int_none (aL I q (by simp))
  | int j=>obtain⟨t',rfl⟩:=ry;exact eq_int (aL I q qq)
  | str j=>obtain⟨t',rfl⟩:=ry;exact PySem.EqMixed.eq_int_str (aL I q (by simp))
  | _=>exact absurd (show false=true from hs) Jk
 | str i=>
  obtain⟨t,rfl⟩:=rx
  cases y with
  | non=>cases ry;exact PySem.EqNone.eq_str_none (aL I q (by simp))
  | bl j=>cases ry;exact PySem.EqMixed.eq_str_bool (aL I q (by simp))
  | int j=>obtain⟨t',rfl⟩:=ry;exact PySem.EqMixed.eq_str_int (aL I q (by simp))
  | str j=>obtain⟨t',rfl⟩:=ry;exact eq_str (aL I q pM)
  | _=>exact absurd (show false=true from hs) Jk
 | byt i=>
  obtain⟨t,rfl⟩:=rx
  cases y with
  | byt j=>obtain⟨t',rfl⟩:=ry;exact PySem.W.eq_bytes (aL I q pP)
  | _=>exact absurd (show false=true from hs) Jk
 | _=>cases y<;>exact absurd (show false=true from hs) Jk
theorem Az:dC X (compareOp .NotEq) Eh:=by
 intro pins s σ H x y v u Q I rx ry h
 obtain⟨hs,q⟩:=h
 cases x with
 | non=>
  cases rx
  cases y with
  | non=>cases ry;exact PySem.EqNone.ne_none_none (aL I q (by simp))
  | bl j=>cases ry;exact PySem.EqNone.ne_none_bool (aL I q (by simp))
  | int j=>obtain⟨t',rfl⟩:=ry;exact PySem.EqNone.ne_none_int (aL I q (by simp))
  | str j=>obtain⟨t',rfl⟩:=ry;exact PySem.EqNone.ne_none_str (aL I q (by simp))
  | _=>exact absurd (show false=true from hs) Jk
 | bl i=>
  cases rx
  cases y with
  | non=>cases ry;exact PySem.EqNone.ne_bool_none (aL I q (by simp))
  | bl j=>cases ry;exact ne_bool (aL I q (congrArg not sv))
  | str j=>obtain⟨t',rfl⟩:=ry;exact PySem.EqMixed.ne_bool_str (aL I q (by simp))
  | _=>exact absurd (show false=true from hs) Jk
 | int i=>
  obtain⟨t,rfl⟩:=rx
  cases y with
  | non=>cases ry;exact PySem.EqNone.ne_int_none (aL I q (by simp))
  | int j=>obtain⟨t',rfl⟩:=ry;exact ne_int (aL I q (congrArg not qq))
  | str j=>obtain⟨t',rfl⟩:=ry;exact PySem.EqMixed.ne_int_str (aL I q (by simp))
  | _=>exact absurd (show false=true from hs) Jk
 | str i=>
  obtain⟨t,rfl⟩:=rx
  cases y with
  | non=>cases ry;exact PySem.EqNone.ne_str_none (aL I q (by simp))
  | bl j=>cases ry;exact PySem.EqMixed.ne_str_bool (aL I q (by simp))
  | int j=>obtain⟨t',rfl⟩:=ry;exact PySem.EqMixed.ne_str_int (aL I q (by simp))
  | str j=>obtain⟨t',rfl⟩:=ry;exact ne_str (aL I q (congrArg not pM))
  | _=>exact absurd (show false=true from hs) Jk
 | byt i=>
  obtain⟨t,rfl⟩:=rx
  cases y with
  | byt j=>obtain⟨t',rfl⟩:=ry;exact PySem.W.ne_bytes (aL I q (congrArg not pP))
  | _=>exact absurd (show false=true from hs) Jk
 | _=>cases y<;>exact absurd (show false=true from hs) Jk
theorem pH:dC X (compareOp .Lt) (yz fun i j =>.bl (decide (i<j))):=yK fun _ _ _ _ _ _ _ q=>lt_int q
theorem xr:dC X (compareOp .Gt) (yz fun i j =>.bl (decide (j<i))):=yK fun _ _ _ _ _ _ _ q=>gt_int q
theorem Cq:dC X (compareOp .GtE) (yz fun i j =>.bl (decide (j<=i))):=yK fun _ _ _ _ _ _ _ q=>ge_int q
theorem zQ:dC X (compareOp .Is) (fun x y H Q=>y = .non/\Q (.bl (decide (x = .non))) H):=by
 intro pins s σ H x y v u Q I rx ry h
 obtain⟨rfl,q⟩:=h
 cases ry
 refine is_none_gen (aL I q ?_)
 cases x<;>first
  | (cases rx;rfl)
  | (obtain⟨t,rfl⟩:=rx;rfl)
theorem vT:dC X (compareOp .IsNot) (fun x y H Q=>y = .non/\Q (.bl (!decide (x = .non))) H):=by
 intro pins s σ H x y v u Q I rx ry h
 obtain⟨rfl,q⟩:=h
 cases ry
 refine isnot_none_gen (aL I q ?_)
 cases x<;>first
  | (cases rx;rfl)
  | (obtain⟨t,rfl⟩:=rx;rfl)
theorem dC.or {f:Value->Value->Sem Value}{r r':R2}(h:dC X f r)(h':dC X f r'):dC X f (fun x y H Q=>r x y H Q∨r' x y H Q):=by
 intro pins s σ H x y v u Q I rx ry q
 rcases q with q|q
 ·exact h s σ H x y v u Q I rx ry q
 ·exact h' s σ H x y v u Q I rx ry q
theorem aQ (b:Expr){op:CmpOp}(h:op ≠ .In:=by decide)(h2:op ≠ .NotIn:=by decide):behindInMarks op b=false:=by
 have e1:(op==CmpOp.In)=false:=by cases op<;>first|rfl|exact absurd rfl h
 have e2:(op==CmpOp.NotIn)=false:=by cases op<;>first|rfl|exact absurd rfl h2
 cases b<;>simp[behindInMarks,e1,e2]
theorem iZ {op:CmpOp}{r:R2}(ho:dC X (compareOp op) r)(ha:PE X a ta)(hb:PE X b tb)(hm:behindInMarks op b=false):PE X (.Compare a [op] [b] pos) (Ci r ta tb):=by
 intro pins s σ H Q I h
 exact wpAny_Compare1 (zS ha hb I h fun v u s2 x y H2 I2 rx ry q=>ho s2 σ H2 x y v u Q I2 rx ry q) hm
noncomputable def xK (t:TE):TT:=fun σ H Q=>t σ H fun x H'=>∃k,x = .bl k/\Q k H'
theorem aI {op:CmpOp}{r:R2}(ho:dC X (compareOp op) r)(ha:PE X a ta)(hb:PE X b tb)(hm:behindInMarks op b=false):PT X (.Compare a [op] [b] pos) (xK (Ci r ta tb)):=by
 intro pins s σ H Q I h
 refine wpAny_isTrue_Compare1 (aM (ha s σ H _ I h) fun v s1 hz_=>ae.el hz_ _ fun x H1 I1 r1 q1=>aM (hb s1 σ H1 _ I1 q1) fun u s2 ⟨y,H2,I2,r2,q2⟩=>
  aM (ho s2 σ H2 x y v u _ I2 r1 r2 q2) fun c s3 ⟨z,H3,I3,r3,k,e,q3⟩=>?_) hm
 subst e
 cases r3
 exact wpAny_truthy_bool ⟨H3,I3,q3⟩
noncomputable def CL (K:Jd)(x:V)(H:Hp)(k:Bool):Prop:=
 match x with
 | .non=>k=false
 | .bl b=>k=b
 | .int i=>k=(i != 0)
 | .str y=>y.length<=sizeLine/\k=((y.length:Int) != 0)
 | .byt y=>y.size<=sizeLine/\k=((y.size:Int) != 0)
 | .ref p=>(∃xs,aB K H p xs/\k = !xs.isEmpty)∨(∃xs,iC K H p xs/\k = !xs.isEmpty)∨∃kvs,H p=some (.dK kvs)/\k = !kvs.isEmpty
 | _=>False
theorem oW {κ:Type}{kvs:List (κ×V)}{vs:List (κ×Value)}(r:KV kvs vs):(!vs.isEmpty) = !kvs.isEmpty:=by
 cases r<;>rfl
theorem jJ {xs:List V}{au:List Value}(r:Vals xs au):(!au.toArray.isEmpty) = !xs.isEmpty:=by
 cases r<;>simp
theorem gX:(sizeLine:Nat)<2^63:=by rw[sizeLine_eq];decide
theorem zj:Gx X (fun x H Q=>∃k,CL X.K x H k/\Q k H):=by
 intro pins s σ H x v Q I rx h
 obtain⟨k,e,q⟩:=h
 have hl:=gX
 have hs:sizeLine=16777216:=sizeLine_eq
 cases x with
 | non=>
  cases rx
  have e':k=false:=e
  subst e'
  exact truthy_none ⟨H,I,q⟩
 | bl b=>
  cases rx
  have e':k=b:=e
  subst e'
  exact wpAny_truthy_bool ⟨H,I,q⟩
 | int i=>
  obtain⟨t,rfl⟩:=rx
  have e':k=(i != 0):=e
  subst e'
  exact PySem.P.truthy_int ⟨H,I,q⟩
 | str y=>
  obtain⟨t,rfl⟩:=rx
  obtain⟨hy,e'⟩:y.length<=sizeLine/\k=((y.length:Int) != 0):=e
  subst e'
  exact PySem.P.truthy_str (by omega) ⟨H,I.tok _,q⟩
 | byt y=>
  obtain⟨t,rfl⟩:=rx
  obtain⟨hy,e'⟩:y.size<=sizeLine/\k=((y.size:Int) != 0):=e
  subst e'
  exact PySem.W.truthy_bytes (by omega) ⟨H,I.tok _,q⟩
 | ref p=>
  cases rx
  have e':(∃xs,aB X.K H p xs/\k = !xs.isEmpty)∨(∃xs,iC X.K H p xs/\k = !xs.isEmpty)∨∃kvs,H p=some (.dK kvs)/\k = !kvs.isEmpty:=e
  rcases e' with ⟨xs,hx,e'⟩|⟨xs,hx,e'⟩|⟨kvs,hx,e'⟩
  ·subst e'
   obtain⟨au,r,pl,hz⟩:=I.list hx
   have hlen:=r.length
   exact wpAny_truthy_list pl.isList (by simp only[Jl];omega) ⟨H,I.tok _,by rw[jJ r];exact q⟩
  ·subst e'
   obtain⟨au,r,pl,hz⟩:=I.tuple hx
   have hlen:=r.length
   exact truthy_tuple pl (by simp only[Jl];omega) ⟨H,I.tok _,by rw[jJ r];exact q⟩
  ·subst e'
   obtain⟨hz,hS,vs,r,m⟩:kvs.length<=sizeLine/\(p==sysModules)=false/\∃vs,KV kvs vs/\s.heap.DictOf (aP X.prog X.w) p vs:=I.aN p _ hx
   have hlen:kvs.length=vs.length:=Paired.length r
   exact wpAny_truthy_dict hS m (by omega) ⟨H,I.tok _,by rw[oW r];exact q⟩
 | _=>exact(show False from e).elim
theorem mL (ha:PE X a ta)(he:∀whole,isTrue a X.env whole=(do let v <-whole;standAt a.pos;holding [v] (truthy v))):
  PT X a (fun σ H Q=>ta σ H fun x H'=>∃k,CL X.K x H' k/\Q k H'):=by
 intro pins s σ H Q I h
 exact isTrue_plain (aM (ha s σ H _ I h) fun v s1 hz_=>ae.el hz_ _ fun x H1 I1 r1 q1=>zj s1 σ H1 x v Q I1 r1 q1) (he _)
theorem nX:dC X (binaryOp .Add) (fun x y H Q=>∃i j,x = .str i/\y = .str j/\i.length+j.length<=sizeLine/\Q (.str (i++j)) H):=by
 intro pins s σ H x y v u Q I rx ry h
 obtain⟨i,j,rfl,rfl,hz,q⟩:=h
 obtain⟨t,rfl⟩:=rx
 obtain⟨t',rfl⟩:=ry
 exact add_str (fun t' tk=>⟨.str (i++j),H,I.tok _,⟨_,rfl⟩,q⟩) hz
theorem vals1 {x:V}{us:List Value}(r:Vals [x] us):∃u,us=[u]/\RelV x u:=by
 cases r with
 | cons r1 r2=>cases r2;exact⟨_,rfl,r1⟩
theorem vals2 {x y:V}{us:List Value}(r:Vals [x,y] us):∃u w',us=[u,w']/\RelV x u/\RelV y w':=by
 cases r with
 | cons r1 r2=>
  cases r2 with
  | cons r3 r4=>cases r4;exact⟨_,_,rfl,r1,r3⟩
theorem qD (hc:X.calm=true):bN X (.builtin "min") (fun xs H Q=>∃i j,xs=[.int i,.int j]/\Q (.int (if j<i then j else i)) H):=by
 intro pins s σ H xs us Q I r h
 obtain⟨i,j,rfl,q⟩:=h
 obtain⟨u,w',rfl,⟨t,rfl⟩,⟨t',rfl⟩⟩:=vals2 r
 refine min_two_ints (I.ok.hd hc) fun h' tk k=>⟨_,H,I.kept k,?_,q⟩
 by_cases hj:j<i
 ·rw[if_pos hj,if_pos hj];exact⟨_,rfl⟩
 ·rw[if_neg hj,if_neg hj];exact⟨_,rfl⟩
theorem qv:bN X (.type "int") (fun xs H Q=>(∃i,xs=[.int i]/\Q (.int i) H)∨∃k,xs=[.bl k]/\Q (.int (if k then 1 else 0)) H):=by
 intro pins s σ H xs us Q I r h
 rcases h with ⟨i,rfl,q⟩|⟨k,rfl,q⟩
 ·obtain⟨u,rfl,t,rfl⟩:=vals1 r
  exact call_int_int ⟨.int i,H,I,⟨_,rfl⟩,q⟩
 ·obtain⟨u,rfl,r1⟩:=vals1 r
  cases r1
  exact call_int_bool ⟨.int (if k then 1 else 0),H,I.tok _,⟨_,rfl⟩,q⟩
noncomputable def yL (K:Jd)(x:V)(H:Hp)(n:Nat):Prop:=
 match x with
 | .str y=>y.length<=sizeLine/\n=y.length
 | .byt y=>y.size<=sizeLine/\n=y.size
 | .ref p=>(∃xs,aB K H p xs/\n=xs.length)∨∃xs,iC K H p xs/\n=xs.length
 | _=>False
theorem tF:bN X (.builtin "len") (fun xs H Q=>∃x n,xs=[x]/\yL X.K x H n/\Q (.int n) H):=by
 intro pins s σ H xs us Q I r h
 obtain⟨x,n,rfl,e,q⟩:=h
 obtain⟨u,rfl,rx⟩:=vals1 r
 have hl:=gX
 have hs:sizeLine=16777216:=sizeLine_eq
 cases x with
 | str y=>
  obtain⟨t,rfl⟩:=rx
  obtain⟨hy,e'⟩:y.length<=sizeLine/\n=y.length:=e
  subst e'
  exact len_str (by omega) ⟨.int _,H,I.tok _,⟨_,rfl⟩,q⟩
 | byt y=>
  obtain⟨t,rfl⟩:=rx
  obtain⟨hy,e'⟩:y.size<=sizeLine/\n=y.size:=e
  subst e'
  exact PySem.W.len_bytes (by omega) ⟨.int _,H,I.tok _,⟨_,rfl⟩,q⟩
 | ref p=>
  cases rx
  have e':(∃xs,aB X.K H p xs/\n=xs.length)∨∃xs,iC X.K H p xs/\n=xs.length:=e
  rcases e' with ⟨xs,hx,e'⟩|⟨xs,hx,e'⟩
  ·subst e'
   obtain⟨au,r',pl,hz⟩:=I.list hx
   have hlen:=r'.length
   exact Calls.call_len_list pl.isList (by simp only[Jl];omega) ⟨.int xs.length,H,I.tok _,⟨_,by simp only[Jl];rw[hlen]⟩,q⟩
  ·subst e'
   obtain⟨au,r',pl,hz⟩:=I.tuple hx
   have hlen:=r'.length
   exact len_tuple pl (by simp only[Jl];omega) ⟨.int xs.length,H,I.tok _,⟨_,by simp only[Jl];rw[hlen]⟩,q⟩
 | _=>exact(show False from e).elim
theorem mM:bN X (.builtin "divmod") (fun xs H Q=>∃i j,xs=[.int i,.int j]/\zf i j/\∀p,H p=none->Q (.ref p) (upd H p (.tup [.int (i / j),.int (i%j)]))):=by
 intro pins s σ H xs us Q I r h
 obtain⟨i,j,rfl,⟨h1,h2⟩,q⟩:=h
 obtain⟨u,w',rfl,⟨t,rfl⟩,⟨t',rfl⟩⟩:=vals2 r
 refine divmod_int (by omega) ?_ (.inl (PyProof.noPylong_small (by omega)))
 rw[Int.fdiv_eq_ediv_of_nonneg i (by omega),Int.fmod_eq_emod_of_nonneg i (by omega)]
 have hn:H s.heap.objs.size=none:=I.aN.fresh (Je _)
 refine⟨.ref s.heap.objs.size,_,?_,rfl,q _ hn⟩
 refine I.laid (fun b o e=>Jc _ e) (Je _) ⟨by simp only[J1,Ys];rw[sizeLine_eq];decide,[.int (i / j) s.toks,.int (i%j) (s.toks+1)],.cons ⟨_,rfl⟩ (.cons ⟨_,rfl⟩ .nil),?_⟩
 exact⟨_,Js s.heap rfl,rfl,0,rfl⟩
end
structure zt (h:Heap)(x dx C:Addr)(mA:Str->Option Value):Prop where
 obj:h.get? x=some (PySem.W.instObj C dx)
 ns:h.Ns1 dx mA
 ne:dx≠x
theorem rC {h:Heap}{dx:Addr}{mA:Str->Option Value}(n:h.Ns1 dx mA):∃od,h.get? dx=some od/\∀name,PySem.W.lookIn name od=some (mA name):=by
 obtain⟨o,es,ep,ho,hd,hk,_,hm⟩:=n
 refine⟨o,ho,fun name =>?_⟩
 have e:=hm name
 unfold nsFind findBy at e
 rw[<-Array.find?_toList] at e
 unfold PySem.W.lookIn
 rw[hd]
 dsimp only
 split
 ·rename_i y q
  rw[q] at e
  exact congrArg some e
 ·rename_i q
  rw[q] at e
  have a:es.toList.any (·.refKey)=false:=by
   rw[List.any_eq_false]
   intro y hy
   obtain⟨z,t,yx⟩:=hk y (Array.mem_toList_iff.mp hy)
   simp[DictEntry.refKey,yx]
  have a':¬es.toList.any (·.refKey)=true:=by rw[a];exact Jk
  rw[if_neg a']
  exact congrArg some e
theorem zt.look {h:Heap}{x dx C:Addr}{mA:Str->Option Value}(I:zt h x dx C mA):∃od,PySem.W.InstAt h x (PySem.W.instObj C dx) C (some od)/\∀name,PySem.W.lookIn name od=some (mA name):=
 let ⟨od,ho,hl⟩:=rC I.ns
 ⟨od,⟨I.obj,rfl,rfl,ho⟩,hl⟩
theorem i6.some_of {v:V}{o:Option Value}(r:i6 (some v) o):∃u,o=some u/\RelV v u:=by
 cases o with
 | none=>exact(show False from r).elim
 | some u=>exact⟨u,rfl,r⟩
section
variable {P:Program}{w:World}{H H':Hp}{h h':Heap}{a C dx:Addr}{fs lY:List (Str×V)}
theorem vL (aN:d6 P w H h)(e:H a=some (.ins C dx fs)):∃mA,zt h a dx C mA/\(∀f,i6 (fs.lookup f) (mA f))/\PySem.Within mA (fs.map (·.1))/\fs.length<=1000/\H dx=some (.own a):=by
 obtain⟨d,z,ne,ob,mA,n,r,q⟩:=(show ba P w H h a (.ins C dx fs) from aN a _ e)
 exact⟨mA,⟨ob,n,ne⟩,r,q,z,d⟩
end
structure E8 (K:Jd)(C:Addr):Prop where
 pg:PySem.W.plainGet K C Str.empty=true
 hd:PySem.W.hasDictIn K C=true
 po:PySem.W.plainOver K C=true
 sa:PySem.W.findIn K (.ref C) "__setattr__" = some (some (.builtin "object.__setattr__"))
theorem E8.get {K:Jd}{C:Addr}(c:E8 K C)(f:Str):PySem.W.plainGet K C f=true:=c.pg
section
variable {X:Cx}{pins:List (Addr×Obj)}{σ:St}{H:Hp}{s:Shared}{A:Around}{E:Value->Shared->Prop}{Q:Value->Shared->Prop}{c:Value}{b:Bool}
inductive gO (K:Jd)(H:Hp):V->Value->Prop where
 | non:gO K H .non (.type "NoneType")
 | bl (x:Bool):gO K H (.bl x) (.type "bool")
 | int (i:Int):gO K H (.int i) (.type "int")
 | str (x:Str):gO K H (.str x) (.type "str")
 | flt (x:UInt64):gO K H (.flt x) (.type "float")
 | lst {a:Addr} {xs:List V} (e:H a=some (.lst xs)):gO K H (.ref a) (.type "list")
 | frz {a:Addr} {o:Obj} {xs:List V} (e:H a=some (.frz o (.lst xs))):gO K H (.ref a) (.type "list")
 | tup {a:Addr} {xs:List V} (e:H a=some (.tup xs)):gO K H (.ref a) (.type "tuple")
 | dK {a:Addr} {kvs:List (Key×V)} (e:H a=some (.dK kvs)):gO K H (.ref a) (.type "dict")
 | dT {a:Addr} {kvs:List (List Key×V)} (e:H a=some (.dT kvs)):gO K H (.ref a) (.type "dict")
 | ins {a C dx:Addr} {fs:List (Str×V)} (e:H a=some (.ins C dx fs)) (cl:E8 K C) (ha:PySem.W.findIn K (.ref C) "__class__" = some (some (.builtin "object.__class__")))
   (hn:PySem.W.specialIn K (.builtin "object.__class__") "__get__" = some (some (.builtin "getset_descriptor.__get__"))) (ck:PySem.W.takesIn K (.builtin "object.__class__")=some true)
   (hm:PySem.W.mroIn K C (.type "object")=some true):gO K H (.ref a) (.ref C)
theorem rf {x:V}{u t:Value}(I:Inv X pins σ H s)(rx:RelV x u)(ty:gO X.K H x t)(e:PySem.W.kitOne X.K t c=some b)(h:∀tk,Q (.bool b) { s with toks:=tk }):
  wpAny (model X.prog X.w) A (call (.builtin "isinstance") [u,c]) Q E s:=by
 cases ty with
 | non=>cases (show u=Value.none from rx);exact U7 PySem.W.kitx_none I.lq True.intro e (fun z=>nomatch z) h
 | bl y=>cases (show u=Value.bool y from rx);exact U7 PySem.W.kitx_bool I.lq True.intro e (fun z=>nomatch z) h
 | int i=>obtain⟨t,q⟩:=(show ∃t,u=Value.int i t from rx);cases q;exact U7 PySem.W.kitx_int I.lq True.intro e (fun z=>nomatch z) h
 | str y=>obtain⟨t,q⟩:=(show ∃t,u=Value.str y t from rx);cases q;exact U7 PySem.W.kitx_str I.lq True.intro e (fun z=>nomatch z) h
 | flt y=>obtain⟨t,q⟩:=(show ∃t,u=Value.float y t from rx);cases q;exact U7 PySem.W.kitx_float I.lq True.intro e (fun z=>nomatch z) h
 | @lst a xs ea=>
  cases (show u=Value.ref a from rx)
  obtain⟨_,_,n,_,h1⟩:=(show ba X.prog X.w H s.heap a (.lst xs) from I.aN a _ ea)
  exact U7 PySem.W.kitx_list I.lq ⟨_,h1,rfl⟩ e (fun z=>nomatch z) h
 | @frz a ob xs ea=>
  cases (show u=Value.ref a from rx)
  obtain⟨_,_,_,n,_,h1⟩:=(show ba X.prog X.w H s.heap a (.frz ob (.lst xs)) from I.aN a _ ea)
  exact U7 PySem.W.kitx_list I.lq ⟨_,h1,rfl⟩ e (fun z=>nomatch z) h
 | @tup a xs ea=>
  cases (show u=Value.ref a from rx)
  obtain⟨_,_,_,p⟩:=(show ba X.prog X.w H s.heap a (.tup xs) from I.aN a _ ea)
  obtain⟨o,h1,h2,_⟩:=p
  exact U7 PySem.W.kitx_tuple I.lq ⟨o,h1,h2⟩ e (fun z=>nomatch z) h
 | @dK a kvs ea=>
  cases (show u=Value.ref a from rx)
  obtain⟨_,_,vs,_,p⟩:=(show ba X.prog X.w H s.heap a (.dK kvs) from I.aN a _ ea)
  obtain⟨o,es,ep,h1,h2,_⟩:=p
  exact U7 PySem.W.kitx_dict I.lq ⟨o,h1,h2.1⟩ e (fun z=>nomatch z) h
 | @dT a kvs ea=>
  cases (show u=Value.ref a from rx)
  obtain⟨_,_,xs,_,o,es,ep,h1,h2,_⟩:=(show ba X.prog X.w H s.heap a (.dT kvs) from I.aN a _ ea)
  exact U7 PySem.W.kitx_dict I.lq ⟨o,h1,h2.1⟩ e (fun z=>nomatch z) h
 | @ins a C dx fs ea cl ha hn ck hm=>
  cases (show u=Value.ref a from rx)
  obtain⟨mA,O,_⟩:=vL I.aN ea
  obtain⟨od,J,_⟩:=O.look
  exact U7 (PySem.W.kitx_own (cl.get _) cl.hd ha hn ck hm) I.lq J e (fun z=>nomatch z) h
end
structure du (k:Nat)(A:Around):Prop where
 hd:A.handled=none
 dp:A.depth+3*k+5<recursionLimit
 un:A.units+16*k+200<cLine
 gd:A.guards=some []
theorem du.mono {j k:Nat}{A:Around}(r:du k A)(h:j<=k):du j A:=⟨r.hd,by have:=r.dp;omega,by have:=r.un;omega,r.gd⟩
theorem du.deeper {k:Nat}{A:Around}(r:du (k+1) A)(env:Env):du k (A.deeper env):=
 ⟨r.hd,by have:=r.dp;show A.depth+1+3*k+5<_;omega,by have:=r.un;show A.units+3+16*k+200<_;omega,r.gd⟩
theorem du.in1 {k:Nat}{A:Around}(r:du (k+1) A):du k A.in1:=
 ⟨r.hd,by have:=r.dp;show A.depth+3*k+5<_;omega,by have:=r.un;show A.units+1+16*k+200<_;omega,r.gd⟩
theorem du.depth {k:Nat}{A:Around}(r:du k A):A.depth<recursionLimit:=by have:=r.dp;omega
theorem du.units {k:Nat}{A:Around}(r:du k A):A.units+64<cLine:=by have:=r.un;omega
noncomputable def xc:TA:=fun _ H Q=>Q [] H
noncomputable def qb (ta:TE)(tr:TA):TA:=fun σ H Q=>ta σ H fun x H1=>tr σ H1 fun xs H2=>Q (x::xs) H2
section
variable {X:Cx}{e:Expr}{es:List Expr}{te:TE}{t:TA}{pos:Pos}
theorem ag:PA X [] xc:=fun _ _ _ _ H Q I h=>Calls.spliced_nil ⟨[],H,I,.nil,h⟩
theorem aa (ha:PE X e te)(hr:PA X es t)(hs:starEach (e::es) X.env=(false,eval e X.env)::starEach es X.env:=by rfl):PA X (e::es) (qb te t):=by
 intro pos pins s σ H Q I h
 rw[hs]
 show wpAny _ _ (spliced ((false,eval e X.env)::backTo pos (starEach es X.env))) _ _ s
 refine Calls.spliced_cons (aM (ha s σ H _ I h) fun u s1 hz_ =>?_)
 refine ae.el hz_ _ ?_
 clear hz_
 rintro x H1 I1 r1 q1
 exact aM (hr s1 σ H1 _ I1 q1) fun us s2 hz_=>ae.el hz_ _ fun xs H2 I2 r2 q2=>⟨x::xs,H2,I2,.cons r1 r2,q2⟩
noncomputable def AH (t:TA):TE:=fun σ H Q=>t σ H fun xs H1=>xs.length<=sizeLine/\∀p,H1 p=none->Q (.ref p) (upd H1 p (.tup xs))
noncomputable def AI (t:TA):TE:=fun σ H Q=>t σ H fun xs H1=>xs.length<=sizeLine/\∀p,H1 p=none->Q (.ref p) (upd H1 p (.lst xs))
theorem zT {x1}(h:PA X es t):PE X (.Tuple es x1 pos) (AH t):=by
 intro pins s σ H Q I hq
 refine wpAny_Tuple_spliced (aM (h s σ H _ I hq) fun us s1 ⟨xs,H1,I1,r,z,q⟩=>⟨by rw[<-r.length];exact z,?_⟩)
 have hf:H1 s1.heap.objs.size=none:=I1.aN.fresh (Je _)
 refine⟨.ref s1.heap.objs.size,upd H1 s1.heap.objs.size (.tup xs),I1.laid (t':=s1.toks) (fun b u e=>Jc _ e) (Je _) ?_,rfl,q _ hf⟩
 exact⟨z,us,r,⟨_,Js _ rfl,rfl,_,rfl⟩⟩
theorem yN (h:PA X es t):PE X (.List es pos) (AI t):=by
 intro pins s σ H Q I hq
 refine wpAny_List_spliced (aM (h s σ H _ I hq) fun us s1 ⟨xs,H1,I1,r,z,q⟩=>⟨by rw[<-r.length];exact z,?_⟩)
 have hf:H1 s1.heap.objs.size=none:=I1.aN.fresh (Je _)
 refine⟨.ref s1.heap.objs.size,upd H1 s1.heap.objs.size (.lst xs),I1.laid (t':=s1.toks) (fun b u e=>Jc _ e) (Je _) ?_,rfl,q _ hf⟩
 exact⟨z,us,0,r,Js _ rfl⟩
end
noncomputable abbrev Sp:=List V->Hp->VK->XK->Prop
noncomputable abbrev rF:=List Env->Hp->Shared->XK->Value->Shared->Prop
structure nW (P:Program)(w:World)(K:Jd)(mg:Str->Option Value)(base:Heap)(A:Around)(outer:List Env)(s:Shared)(H:Hp):Prop where
 frames:A.frames=some outer
 mod:Mod K mg base
 bs:∀b o,base.get? b=some o->s.heap.get? b=some o/\H b=none
 bsz:base.objs.size<=s.heap.objs.size
 g8:s.heap.FunFrames base outer
 rT:∀b∈kP outer,H b=none
 aN:d6 P w H s.heap
 bare:AllBare s.gens
noncomputable def CE (outer:List Env)(P:Program)(w:World)(H:Hp)(s:Shared)(Q:VK)(u:Value)(s':Shared):Prop:=
 bV fun v H'=>s'.os=s.os/\AllBare s'.gens/\Un (kP outer) [] H H' s.heap s'.heap/\d6 P w H' s'.heap/\RelV v u/\Q v H'
noncomputable def CR (CX:rF)(outer:List Env)(P:Program)(w:World)(H:Hp)(s:Shared)(Q:VK)(E:XK)(r:Result)(s':Shared):Prop:=
 match r with
 | .ok (.ret u)=>CE outer P w H s Q u s'
 | .ok _=>False
 | .error e=>CX outer H s E e s'
structure cf (P:Program)(w:World)(K:Jd)(mg:Str->Option Value)(base:Heap)(CX:rF)(k:Nat)(f:Addr)(fd:FuncData)(ps:List Str)(sp:Sp):Prop where
 len:∀vs H Q E,sp vs H Q E->vs.length=ps.length
 run:∀(A:Around) (outer:List Env) (s:Shared) (H:Hp) (args:Args) (us:List Value) (vs:List V) (Q:VK) (E:XK),du k A->nW P w K mg base A outer s H->BindsTo s fd args (ps.zip us)->Vals vs us->sp vs H Q E ->
  codeAny (model P w) A (.call (.ref f) args) (CR CX outer P w H s Q E) s
theorem cf.mono {P:Program}{w:World}{K:Jd}{mg:Str->Option Value}{base:Heap}{CX:rF}{j k:Nat}{f:Addr}{fd:FuncData}{ps:List Str}{sp:Sp}(F:cf P w K mg base CX j f fd ps sp)(h:j<=k):
  cf P w K mg base CX k f fd ps sp:=⟨F.len,fun A outer s H args us vs Q E hr=>F.run A outer s H args us vs Q E (hr.mono h)⟩
theorem cf.imp {P:Program}{w:World}{K:Jd}{mg:Str->Option Value}{base:Heap}{CX:rF}{k:Nat}{f:Addr}{fd:FuncData}{ps:List Str}{sp B7:Sp}(F:cf P w K mg base CX k f fd ps sp)
  (h:∀vs H Q E,B7 vs H Q E->sp vs H Q E):cf P w K mg base CX k f fd ps B7:=
 ⟨fun vs H Q E q=>F.len vs H Q E (h _ _ _ _ q),fun A outer s H args us vs Q E hr he hb hv hs=>F.run A outer s H args us vs Q E hr he hb hv (h _ _ _ _ hs)⟩
theorem nW.in1 {P:Program}{w:World}{K:Jd}{mg:Str->Option Value}{base:Heap}{A:Around}{outer:List Env}{s:Shared}{H:Hp}(e:nW P w K mg base A outer s H):
  nW P w K mg base A.in1 outer s H:=⟨e.frames,e.mod,e.bs,e.bsz,e.g8,e.rT,e.aN,e.bare⟩
section
variable {X:Cx}{pins:List (Addr×Obj)}{σ:St}{H:Hp}{s s':Shared}
theorem Inv.Cf (I:Inv X pins σ H s):nW X.prog X.w X.K X.mg X.base X.A X.stack s H:=
 ⟨I.ok.frames,I.ok.mod,I.bs,Jq I.ok.bsz I.sz,I.stack,I.pX,I.aN,I.bare⟩
theorem Inv.after {Q:VK}{u:Value}(I:Inv X pins σ H s)(h:CE X.stack X.prog X.w H s Q u s'):EP X pins σ Q u s':=by
 obtain⟨v,H',os,bare,un,aN,r,q⟩:=h
 obtain⟨hh,g,d,t,os'⟩:=s'
 obtain rfl:os'=s.os:=os
 exact⟨v,H',I.call (h':=hh) (g':=g) (d':=d) (t':=t) (ch:=[]) un aN bare (fun b z=>absurd z (by simp)),r,q⟩
end
noncomputable def xO (sp:Sp)(cw:List V)(E:XK)(t:TA):TE:=fun σ H Q=>t σ H fun vs H1=>sp (vs++cw) H1 Q E
noncomputable def Binds (K:Jd)(fd:FuncData)(ps:List Str)(ds:List Value):Prop:=
 ∀(s:Shared) (us:List Value),K.In s.heap->(us++ds).length=ps.length->BindsTo s fd ⟨us,[]⟩ (ps.zip (us++ds))
theorem Binds.all {K:Jd}{fd:FuncData}{ps:List Str}(h:∀us:List Value,us.length=ps.length->bindArgs fd ⟨us,[]⟩=pure (ps.zip us)):Binds K fd ps []:=fun s us _ hl=>by
 rw[Ut] at hl ⊢
 exact .of_eq (h us hl)
noncomputable def Passes (CX:rF)(X:Cx)(E:XK):Prop:=∀(pins:List (Addr×Obj)) (σ:St) (H:Hp) (s:Shared) (e:Value) (s':Shared),Inv X pins σ H s->CX X.stack H s E e s'->X.xe e s'
section
variable {X:Cx}{CX:rF}{k:Nat}{f C:Addr}{fd:FuncData}{ps:List Str}{sp:Sp}{cw:List V}{ds:List Value}{E:XK}{x m:Str}{p pos apos:Pos}{e o:Expr}{es:List Expr}{ta:TE}{t:TA}
theorem zi {pins:List (Addr×Obj)}{σ:St}{H:Hp}{s:Shared}{Q:VK}{us:List Value}{vs:List V}(F:cf X.prog X.w X.K X.mg X.base CX k f fd ps sp)(hr:du k X.A)(hb:Binds X.K fd ps ds)(hd:Vals cw ds)(hx:Passes CX X E)
  (I:Inv X pins σ H s) (r:Vals vs us) (h:sp (vs++cw) H Q E):wpAny (model X.prog X.w) X.A (call (.ref f) us) (EP X pins σ Q) X.xe s:=by
 have r2:Vals (vs++cw) (us++ds):=r.append hd
 have hl:(us++ds).length=ps.length:=by rw[<-r2.length];exact F.len _ _ _ _ h
 refine wpAny_call (codeAny_mono (F.run X.A X.stack s H ⟨us,[]⟩ (us++ds) (vs++cw) Q E hr I.Cf (hb s us I.lq hl) r2 h) fun r s' hq =>?_)
 cases r with
 | error e=>exact hx pins σ H s e s' I hq
 | ok fl=>
  cases fl with
  | ret u=>exact I.after hq
  | next=>exact False.elim hq
  | brk=>exact False.elim hq
  | cont=>exact False.elim hq
theorem vQ (F:cf X.prog X.w X.K X.mg X.base CX k f fd ps sp)(hr:du k X.A)(hg:Gl X x)(hm:X.mg x=some (.ref f))(hk:PySem.W.keepIn X.K (.ref f)=true)(hb:Binds X.K fd ps ds)(hd:Vals cw ds)(hx:Passes CX X E)
  (ha:PA X (e::es) t) (sH:(x==("__debug__" : Str))=false:=by decide) (he:starEach (e::es) X.env=(false,eval e X.env)::starEach es X.env:=by rfl) (kF:(backTo pos (starEach es X.env)).any (·.1)=false:=by rfl) :
  PE X (.Call (.Name x p) (e::es) [] pos) (xO sp cw E t):=by
 intro pins s σ H Q I h
 refine wpAny_Call_Name_kw (pC I hg hm ?_ sH)
 refine PySem.W.callWith_K (h₀:=X.base) I.ok.mod.kin hk (aM (ha s σ H _ I h) fun us s1 hz_=>ae.el hz_ _ fun vs H1 I1 r q=>⟨I1.lq,?_⟩) he kF
 exact zi F hr hb hd hx I1 r q
end
noncomputable def PK (X:Cx)(tX:List Keyword)(t:TA):Prop:=
 ∀ ⦃pos:Pos⦄ ⦃pins:List (Addr×Obj)⦄ (s:Shared) (σ:St) (H:Hp) (Q:List V->Hp->Prop),Inv X pins σ H s->t σ H Q->wpAny (model X.prog X.w) X.A (evalAll ((backToKw pos (keywordEach tX X.env)).map (·.2))) (AP X pins σ Q) X.xe s
section
variable {X:Cx}{CX:rF}{k:Nat}{f C:Addr}{fd:FuncData}{ps ks:List Str}{sp:Sp}{E:XK}{x m:Str}{p pos apos Fe:Pos}{e o:Expr}{es:List Expr}{tX:List Keyword}{te ta:TE}{t tk:TA}{nm:Option Str}
theorem rX:PK X [] xc:=fun _ _ _ _ H Q I h=>wpAny_evalAll_nil ⟨[],H,I,.nil,h⟩
theorem pE (ha:PE X e te)(hr:PK X tX t):PK X (⟨nm,e,Fe⟩::tX) (qb te t):=by
 intro pos pins s σ H Q I h
 show wpAny _ _ (evalAll ((do let v <-eval e X.env;standAt pos;pure v)::(backToKw pos (keywordEach tX X.env)).map (·.2))) _ _ s
 refine wpAny_evalAll_cons (wpAny_bind (aM (ha s σ H _ I h) fun u s1 hz_=>ae.el hz_ _ fun x H1 I1 r1 q1=>wpAny_bind (wpAny_standAt (wpAny_pure ?_))))
 exact aM (hr s1 σ H1 _ I1 q1) fun us s2 hz_=>ae.el hz_ _ fun xs H2 I2 r2 q2=>⟨x::xs,H2,I2,.cons r1 r2,q2⟩
variable {g:List Value->List Value->List Value}{gV:List V->List V->List V}
end
structure bb (N P:List Str)(sc:Scope):Prop where
 kind:sc.kind = .function
 co:sc.isCoroutine=false
 gen:sc.isGenerator=false
 nd:N.Nodup
 pre:N.take P.length=P
 par:∀x∈P,sc.names.lookup x=some .local∨sc.names.lookup x=some .cell
 nofree:∀y∈sc.names,y.2 ≠ .free
theorem kH {kindOf:Str->Option NameKind}{x:Str}:∀{binds:List (Str×Value)} {m:Str->Option Value},(∀v,(x,v)∉binds)->bindL kindOf binds m x=m x
 | [],_,_=>rfl
 | (n,v)::r,m,h=>by
  unfold bindL
  rw[kH fun w hw=>h w (Jo _ hw)]
  split
  ·have:x≠n:=by rintro rfl;exact h v Jp
   simp[this]
  ·rfl
theorem j0 {kindOf:Str->Option NameKind}{x:Str}:∀{binds:List (Str×Value)} {m:Str->Option Value},(∀v,(x,v)∉binds)->bindC kindOf binds m x=m x
 | [],_,_=>rfl
 | (n,v)::r,m,h=>by
  unfold bindC
  rw[j0 fun w hw=>h w (Jo _ hw)]
  split
  ·rfl
  ·have:x≠n:=by rintro rfl;exact h v Jp
   simp[this]
theorem kG {kindOf:Str->Option NameKind}{x:Str}{v:Value}:∀{P:List Str} {vs:List Value} {i:Nat} {m:Str->Option Value},P.Nodup->P[i]? = some x->vs[i]? = some v->kindOf x=some .local ->
  bindL kindOf (P.zip vs) m x=some v
 | [],_,_,_,_,h,_,_=>by simp at h
 | _::_,[],_,_,_,_,h,_=>by simp at h
 | p::P,w::vs,0,m,nd,h1,h2,hk=>by
  simp at h1 h2;subst h1;subst h2
  show bindL kindOf ((p,w)::P.zip vs) m p=_
  unfold bindL
  rw[kH fun v hv=>(U4.mp nd).1 (List.of_mem_zip hv).1,if_pos hk]
  simp
 | p::P,w::vs,i+1,m,nd,h1,h2,hk=>by
  show bindL kindOf ((p,w)::P.zip vs) m x=_
  unfold bindL
  exact kG (i:=i) (U4.mp nd).2 (by simpa using h1) (by simpa using h2) hk
theorem kj {kindOf:Str->Option NameKind}{x:Str}{v:Value}:∀{P:List Str} {vs:List Value} {i:Nat} {m:Str->Option Value},P.Nodup->P[i]? = some x->vs[i]? = some v->kindOf x≠some .local ->
  bindC kindOf (P.zip vs) m x=some v
 | [],_,_,_,_,h,_,_=>by simp at h
 | _::_,[],_,_,_,_,h,_=>by simp at h
 | p::P,w::vs,0,m,nd,h1,h2,hk=>by
  simp at h1 h2;subst h1;subst h2
  show bindC kindOf ((p,w)::P.zip vs) m p=_
  unfold bindC
  rw[j0 fun v hv=>(U4.mp nd).1 (List.of_mem_zip hv).1,if_neg hk]
  simp
 | p::P,w::vs,i+1,m,nd,h1,h2,hk=>by
  show bindC kindOf ((p,w)::P.zip vs) m x=_
  unfold bindC
  exact kj (i:=i) (U4.mp nd).2 (by simpa using h1) (by simpa using h2) hk
noncomputable def start (N:List Str)(vs:List V):St:=vs.map some++Jt (N.length-vs.length) none
noncomputable def qX (CX:rF)(P:Program)(w:World)(K:Jd)(mg:Str->Option Value)(base:Heap)(N:List Str)(qual:Str)(scope:Scope)(f:Addr)(cd:Value)(A:Around)(outer:List Env)(s:Shared)(H:Hp)(E:XK):Cx where
 prog:=P
 w:=w
 K:=K
 mg:=mg
 base:=base
 A:=A.deeper (envOfC qual scope s.heap.objs.size f cd)
 N:=N
 s₀:=s
 H₀:=H
 env:=envOfC qual scope s.heap.objs.size f cd
 outer:=outer
 stack:=envOfC qual scope s.heap.objs.size f cd::outer
 ex:=[]
 calm:=true
 fn:=fun _=>true
 pn:=[]
 xe:=fun e s'=>wpAny (model P w) (A.deeper (envOfC qual scope s.heap.objs.size f cd)) (leaving (envOfC qual scope s.heap.objs.size f cd) e) (fun _ s''=>CX outer H s E e s'') (fun e' s''=>CX outer H s E e' s'') s'
theorem nE {sc:Scope}{n:Nat}{x:Str}(h:sc.names.lookup x=some .cell):∃c,(cellsFrom n sc.names []).lookup x=some c:=by
 have q:=PySem.W.cellsFrom_some sc.names n [] (.inl h)
 exact Option.isSome_iff_exists.mp q
theorem rn {CX:rF}{P:Program}{w:World}{K:Jd}{mg:Str->Option Value}{base:Heap}{N ps:List Str}{qual:Str}{scope:Scope}{f:Addr}{cd:Value}{A:Around}{outer:List Env}{s s1:Shared}{H:Hp}{E:XK}{us:List Value}{vs:List V}
  (S:bb N ps scope) (hd:A.handled=none) (e0:nW P w K mg base A outer s H) (hl:vs.length=ps.length) (r:Vals vs us)
  (x:InCallC s s.heap.objs.size (bindL (envOfC qual scope s.heap.objs.size f cd).kindOf (ps.zip us) fun _=>none) (cellsFrom (s.heap.objs.size+1) scope.names []) (bindC (envOfC qual scope s.heap.objs.size f cd).kindOf (ps.zip us) fun _=>none) s1) :
  Inv (qX CX P w K mg base N qual scope f cd A outer s H E) [] (start N vs) H s1:=by
 have kF:ps.length<=N.length:=by have:=congrArg Ue S.pre;rw[J3] at this;omega
 obtain⟨h1,tk,rfl,hk⟩:=x.done
 have Cg:∀b:Addr,b∉(qX CX P w K mg base N qual scope f cd A outer s H E).ex:=fun b z=>absurd (show b∈([]:List Addr) from z) (by simp)
 refine⟨⟨e0.mod,S.kind,rfl,rfl,Je _,fun y z c h1 h2 =>?_,fun y hy =>?_,fun y c _ h =>?_,fun _=>hd,Around.frames_deeper e0.frames,.inr ⟨rfl,rfl⟩,fun b z=>absurd z (Cg b),e0.bs,e0.bsz,fun b _ _=>Cg b,fun b z=>absurd z (Cg b),e0.g8,e0.rT⟩,
  rfl,e0.bare,Un.kept hk,⟨_,x.toInCall.ns,fun i y v h1 h2 h3 =>?_⟩,fun y c h=>⟨_,x.cell y c h⟩,e0.aN.fresh (Je _),fun y c h =>?_,fun p hp=>absurd (show p∈([]:List (Addr×Obj)) from hp) (by simp),e0.aN.kept hk,?_⟩
 ·exact name_of_addr x.apart (PySem.mem_of_lookup h1) (PySem.mem_of_lookup h2)
 ·have hy:scope.names.lookup y=some .cell∨scope.names.lookup y=some .free:=hy
  rcases hy with hy|hy
  ·exact nE hy
  ·exact absurd rfl (S.nofree _ (PySem.mem_of_lookup hy))
 ·exact Uy (x.above y c (PySem.mem_of_lookup h))
 ·have hi:i<vs.length:=by
   unfold start at h2
   by_cases hi:i<vs.length
   ·exact hi
   ·rw[Ua (by simpa using hi)] at h2
    rw[Yn] at h2
    split at h2<;>cases h2
  have ha:vs[i]? = some v:=by
   unfold start at h2
   rw[Uh (by simpa using hi),Jn] at h2
   cases e:vs[i]? with
   | none=>rw[e] at h2;cases h2
   | some a=>rw[e] at h2;cases h2;rfl
  obtain⟨u,hu,rv⟩:=r.get ha
  have hp:ps[i]? = some y:=by
   rw[<-S.pre,List.getElem?_take_of_lt (by omega)];exact h1
  have GW:ps.Nodup:=by rw[<-S.pre];exact S.nd.sublist (Yy _ _)
  refine⟨u,rv,?_⟩
  rcases S.par y (Yo hp) with k|k
  ·exact .inl ⟨k,kG GW hp hu k⟩
  ·obtain⟨c,e⟩:=nE (n:=s.heap.objs.size+1) k
   refine .inr ⟨.inl k,c,e,?_⟩
   have q:=x.cell y c e
   rw[kj GW hp hu (by show scope.names.lookup y≠_;rw[k];decide)] at q
   exact q
 ·exact e0.aN.fresh (Uy (x.above y c (PySem.mem_of_lookup h)))
 ·unfold start
  show _=N.length
  rw[Jg,Ja,U1]
  omega
theorem AB {CX:rF}{P:Program}{w:World}{K:Jd}{mg:Str->Option Value}{base:Heap}{k:Nat}{f:Addr}{name qual:Str}{params:Arguments}{body:List Stmt}{scope:Scope}{dV kV doc pm dS ct oc:Value}{an od:Option Addr}
  {xJ:Array (Option Value)} {N ps:List Str} {sp:Sp} (lk:K.lookup f=some ⟨oc,od,.func (Wi name qual params body scope dV kV doc pm an dS ct),xJ⟩) (qL:PySem.W.codeIn K dS qual=true) (S:bb N ps scope)
  (len:∀vs H Q E,sp vs H Q E->vs.length=ps.length)
  (sA:∀(A:Around) (outer:List Env) (s:Shared) (H:Hp) (vs:List V) (Q:VK) (E:XK),du k (A.deeper (envOfC qual scope s.heap.objs.size f dS))->sp vs H Q E ->
   ∃t,qW (qX CX P w K mg base N qual scope f dS A outer s H E) body t/\t { nx:=fun _ H'=>Q .non H',rt:=Q } (start N vs) H) :
  cf P w K mg base CX (k+1) f (Wi name qual params body scope dV kV doc pm an dS ct) ps sp:=by
 refine⟨len,fun A outer s H args us vs Q E hr e0 hb r qC =>?_⟩
 have hl:=len _ _ _ _ qC
 have KX:K.In s.heap:=e0.mod.kin.keeps fun b o e=>(e0.bs b o e).1
 have lim:s.heap.NoLimit:=e0.mod.nolimit.keeps fun b o e=>(e0.bs b o e).1
 have B3:∀y∈ps.zip us,scope.names.lookup y.1=some .local∨(scope.names.lookup y.1=some .cell/\((cellsFrom (s.heap.objs.size+1) scope.names []).lookup y.1).isSome=true):=fun⟨n,v⟩ hy=>by
  rcases S.par n (List.of_mem_zip hy).1 with q|q
  ·exact .inl q
  ·exact .inr ⟨q,PySem.W.cellsFrom_some _ _ _ (.inl q)⟩
 refine codeAny_call_function hr.depth (KX _ _ lk) rfl S.co S.gen rfl (PySem.W.codeRec_of KX qL) (hb _ _ _ _ ?_)
 refine wpAny_newFunctionEnv_cells S.kind B3 fun env he s1 x =>?_
 subst he
 refine⟨lim.keeps x.toInCall.keep,codeAny_func ?_⟩
 obtain⟨t,ht,hq⟩:=sA A outer s H vs Q E (hr.deeper _) qC
 have I:Inv (qX CX P w K mg base N qual scope f dS A outer s H E) [] (start N vs) H s1:=rn S hr.hd e0 hl r x
 refine wpAny_mono (ht s1 (start N vs) H _ I hq) (fun fl s' hs =>?_) fun e s' hs=>hs
 have fin:∀{σ':St} {H':Hp} {v:V} {u:Value},Inv (qX CX P w K mg base N qual scope f dS A outer s H E) [] σ' H' s'->RelV v u->Q v H'->CE outer P w H s Q u s':=
  fun{σ' H' v u} J rv q=>⟨v,H',J.os,J.bare,J.base,J.aN,rv,q⟩
 cases fl with
 | ret u=>
  obtain⟨v,σ',H',J,rv,q⟩:=hs
  exact fin J rv q
 | next=>
  obtain⟨σ',H',J,q⟩:=hs
  exact fin (v:=V.non) (u:=Value.none) J rfl q
 | brk=>
  obtain⟨_,_,_,q⟩:=hs
  exact False.elim q
 | cont=>
  obtain⟨_,_,_,q⟩:=hs
  exact False.elim q
section
variable {X:Cx}{x:Str}{p pos:Pos}{e:Expr}{es:List Expr}{t:TA}{id T:String}{r:List V->Hp->VK->Prop}
noncomputable def ER (r:List V->Hp->VK->Prop)(t:TA):TE:=fun σ H Q=>t σ H fun vs H1=>r vs H1 Q
theorem az (hc:bN X (.builtin id) r)(hg:Gl X x)(hm:X.mg x=none)(hv:bootBuiltins x=some (.builtin id))(ha:PA X (e::es) t)(hn:x ≠ "__name__":=by decide)(sH:(x==("__debug__" : Str))=false:=by decide)
  (he:starEach (e::es) X.env=(false,eval e X.env)::starEach es X.env:=by rfl) (kF:(backTo pos (starEach es X.env)).any (·.1)=false:=by rfl):PE X (.Call (.Name x p) (e::es) [] pos) (ER r t):=by
 intro pins s σ H Q I h
 refine wpAny_Call_Name_kw (e9 I hg hm hv ?_ hn sH)
 exact PyProof.Rows.callWith_builtin1 (aM (ha s σ H _ I h) fun us s1 hz_=>ae.el hz_ _ fun vs H1 I1 r1 q1=>hc s1 σ H1 vs us Q I1 r1 q1) he kF
theorem dZ (hc:bN X (.type T) r)(hg:Gl X x)(hm:X.mg x=none)(hv:bootBuiltins x=some (.type T))(ha:PA X (e::es) t)(hn:x ≠ "__name__":=by decide)(sH:(x==("__debug__" : Str))=false:=by decide)
  (he:starEach (e::es) X.env=(false,eval e X.env)::starEach es X.env:=by rfl) (kF:(backTo pos (starEach es X.env)).any (·.1)=false:=by rfl):PE X (.Call (.Name x p) (e::es) [] pos) (ER r t):=by
 intro pins s σ H Q I h
 refine wpAny_Call_Name_kw (e9 I hg hm hv ?_ hn sH)
 exact PyProof.Rows.callWith_type1 (aM (ha s σ H _ I h) fun us s1 hz_=>ae.el hz_ _ fun vs H1 I1 r1 q1=>hc s1 σ H1 vs us Q I1 r1 q1) he kF
end
section
variable {κ:Type}[DecidableEq κ]
noncomputable def aq (kvs:List (κ×V))(k: κ):Option V:=(kvs.find? fun kv=>decide (kv.1=k)).map (·.2)
noncomputable def putK (kvs:List (κ×V))(k: κ)(v:V):List (κ×V):=
 if (kvs.any fun kv=>decide (kv.1=k))=true then kvs.map (fun kv=>if kv.1=k then (kv.1,v) else kv) else kvs++[(k,v)]
theorem bQ {p: κ×V}{r:List (κ×V)}{k: κ}(e:p.1=k):aq (p::r) k=some p.2:=by simp[aq,List.find?_cons,e]
theorem bG {p: κ×V}{r:List (κ×V)}{k: κ}(e:¬p.1=k):aq (p::r) k=aq r k:=by simp[aq,List.find?_cons,e]
theorem dj (k: κ):∀kvs:List (κ×V),(kvs.any fun kv=>decide (kv.1=k))=(aq kvs k).isSome
 | []=>rfl
 | p::r=>by
  rw[List.any_cons]
  by_cases e:p.1=k
  ·simp only[bQ e,decide_eq_true e,Bool.true_or,Option.isSome_some]
  ·rw[bG e,decide_eq_false e,Bool.false_or];exact dj k r
theorem mT (k j: κ)(y:V):∀kvs:List (κ×V),aq (kvs.map fun kv=>if kv.1=k then (kv.1,y) else kv) j=(aq kvs j).map fun x=>if j=k then y else x
 | []=>rfl
 | p::r=>by
  have ih:=mT k j y r
  rw[Ui]
  by_cases h:p.1=k
  ·rw[if_pos h]
   by_cases e:p.1=j
   ·rw[bQ (p:=(p.1,y)) e,bQ e,Option.map_some,if_pos (e.symm.trans h)]
   ·rw[bG (p:=(p.1,y)) e,bG e,ih]
  ·rw[if_neg h]
   by_cases e:p.1=j
   ·rw[bQ (p:=p) e,bQ e,Option.map_some,if_neg (fun z=>h (e.trans z))]
   ·rw[bG (p:=p) e,bG e,ih]
theorem kJ (k j: κ)(y:V):∀kvs:List (κ×V),aq kvs k=none->aq (kvs++[(k,y)]) j=if j=k then some y else aq kvs j
 | [],_=>by
  by_cases e:k=j
  ·rw[if_pos e.symm];exact bQ (p:=(k,y)) e
  ·rw[if_neg (fun z=>e z.symm)];exact bG (p:=(k,y)) e
 | p::r,hn=>by
  rw[List.cons_append]
  have hk:¬p.1=k:=fun z=>by rw[bQ z] at hn;cases hn
  rw[bG hk] at hn
  have ih:=kJ k j y r hn
  by_cases e:p.1=j
  ·rw[bQ e,bQ e,if_neg (fun z=>hk (e.trans z))]
  ·rw[bG e,bG e,ih]
theorem eX (kvs:List (κ×V))(k j: κ)(y:V):aq (putK kvs k y) j=if j=k then some y else aq kvs j:=by
 unfold putK
 by_cases a:(kvs.any fun kv=>decide (kv.1=k))=true
 ·rw[if_pos a,mT]
  rw[dj] at a
  by_cases e:j=k
  ·obtain⟨x,hx⟩:=Option.isSome_iff_exists.mp a
   rw[if_pos e,e,hx,Option.map_some,if_pos rfl]
  ·rw[if_neg e]
   cases aq kvs j with
   | none=>rfl
   | some x=>rw[Option.map_some,if_neg e]
 ·rw[if_neg a]
  refine kJ k j y kvs ?_
  rw[dj] at a
  cases q:aq kvs k with
  | none=>rfl
  | some x=>rw[q] at a;exact(a rfl).elim
theorem cO (kvs:List (κ×V))(k: κ)(v:V):(putK kvs k v).length<=kvs.length+1:=by
 unfold putK
 split
 ·rw[Ja];omega
 ·rw[Jg,J1,Ys];omega
theorem cz {kvs:List (κ×V)}{k: κ}(v:V)(h:aq kvs k=none):putK kvs k v=kvs++[(k,v)]:=by
 unfold putK
 rw[dj,h]
 exact if_neg (by decide)
theorem i6.dU {o:Option V}{u:Option Value}(r:i6 o u):o.isSome=u.isSome:=by
 cases o with
 | none=>cases u with
  | none=>rfl
  | some _=>exact(show False from r).elim
 | some _=>cases u with
  | none=>exact(show False from r).elim
  | some _=>rfl
theorem KV.val {kvs:List (κ×V)}{vs:List (κ×Value)}(r:KV kvs vs)(k: κ):i6 (aq kvs k) (valueAt vs k):=by
 unfold KV at r
 induction r with
 | nil=>exact True.intro
 | @cons p q ps qs h t ih=>
  obtain⟨h1,h2⟩:=h
  by_cases e:p.1=k
  ·have e':q.1=k:=h1.symm.trans e
   have b:valueAt (q::qs) k=some q.2:=by simp[valueAt,List.find?_cons,e']
   rw[bQ e,b];exact h2
  ·have e':¬q.1=k:=fun z=>e (h1.trans z)
   have b:valueAt (q::qs) k=valueAt qs k:=by simp[valueAt,List.find?_cons,e']
   rw[bG e,b];exact ih
theorem KV.any {kvs:List (κ×V)}{vs:List (κ×Value)}(r:KV kvs vs)(k: κ):(kvs.any fun kv=>decide (kv.1=k))=vs.any fun kv=>decide (kv.1=k):=by
 unfold KV at r
 induction r with
 | nil=>rfl
 | cons h t ih=>rw[List.any_cons,List.any_cons,ih,h.1]
theorem KV.yy {kvs:List (κ×V)}{vs:List (κ×Value)}(r:KV kvs vs)(k: κ){y:V}{u:Value}(ry:RelV y u):
  KV (kvs.map fun kv=>if kv.1=k then (kv.1,y) else kv) (vs.map fun kv=>if kv.1=k then (kv.1,u) else kv):=by
 unfold KV at r ⊢
 induction r with
 | nil=>exact .nil
 | @cons p q ps qs h t ih=>
  rw[Ui,Ui]
  refine .cons ?_ ih
  obtain⟨h1,h2⟩:=h
  by_cases e:p.1=k
  ·rw[if_pos e,if_pos (h1.symm.trans e)];exact⟨h1,ry⟩
  ·rw[if_neg e,if_neg (fun z=>e (h1.trans z))];exact⟨h1,h2⟩
theorem KV.put {kvs:List (κ×V)}{vs:List (κ×Value)}(r:KV kvs vs)(k: κ){y:V}{u:Value}(ry:RelV y u):KV (putK kvs k y) (stored vs k u):=by
 unfold putK stored
 rw[r.any k]
 by_cases e:(vs.any fun kv=>decide (kv.1=k))=true
 ·rw[if_pos e,if_pos e];exact r.yy k ry
 ·rw[if_neg e,if_neg e];exact Paired.snoc r ⟨rfl,ry⟩
theorem KV.length {kvs:List (κ×V)}{vs:List (κ×Value)}(r:KV kvs vs):kvs.length=vs.length:=Paired.length r
end
theorem jr {P:Program}{w:World}{k:Key}{u:Value}(r:RelV (kV k) u):(aP P w).is k u=true:=by
 cases k with
 | inl i=>obtain⟨t,e⟩:=(show ∃t,u=Value.int i t from r);subst e;exact mn P w i t
 | inr x=>obtain⟨t,e⟩:=(show ∃t,u=Value.str x t from r);subst e;exact mf P w x t
theorem jZ {P:Program}{w:World}:∀{ks:List Key} {us:List Value},Vals (ks.map kV) us->ItemsAre (aP P w) ks us
 | [],_,r=>by rw[List.map_nil] at r;cases r;exact .nil
 | k::ks,_,r=>by
  rw[Ui] at r
  cases r with
  | cons h t=>exact .cons (jr h) (jZ t)
noncomputable abbrev KT (H:Hp):List (List Key×V)->List (List Key×Addr×Value)->Prop:=Paired fun p q=>p.1=q.1/\H q.2.1=some (.tup (p.1.map kV))/\RelV p.2 q.2.2
theorem KT.val {H:Hp}{kvs:List (List Key×V)}{xs:List (List Key×Addr×Value)}(r:KT H kvs xs)(k:List Key):i6 (aq kvs k) ((atKey xs k).map (·.2)):=by
 induction r with
 | nil=>exact True.intro
 | @cons p q ps qs h t ih=>
  obtain⟨h1,_,h2⟩:=h
  by_cases e:p.1=k
  ·have e':q.1=k:=h1.symm.trans e
   have b:atKey (q::qs) k=some q.2:=by simp[atKey,List.find?_cons,e']
   rw[bQ e,b];exact h2
  ·have e':¬q.1=k:=fun z=>e (h1.trans z)
   have b:atKey (q::qs) k=atKey qs k:=by simp[atKey,List.find?_cons,e']
   rw[bG e,b];exact ih
theorem KT.yy {H:Hp}{kvs:List (List Key×V)}{xs:List (List Key×Addr×Value)}(r:KT H kvs xs)(k:List Key){y:V}{u:Value}(ry:RelV y u):
  KT H (kvs.map fun kv=>if kv.1=k then (kv.1,y) else kv) (xs.map (putAt k u)):=by
 induction r with
 | nil=>exact .nil
 | @cons p q ps qs h t ih=>
  rw[Ui,Ui]
  refine .cons ?_ ih
  obtain⟨h1,h2,h3⟩:=h
  unfold putAt
  by_cases e:p.1=k
  ·rw[if_pos e,if_pos (h1.symm.trans e)];exact⟨h1,h2,ry⟩
  ·rw[if_neg e,if_neg (fun z=>e (h1.trans z))];exact⟨h1,h2,h3⟩
theorem KT.put {H:Hp}{kvs:List (List Key×V)}{xs:List (List Key×Addr×Value)}(r:KT H kvs xs)(k:List Key){b:Addr}{y:V}{u:Value}(hb:H b=some (.tup (k.map kV)))(ry:RelV y u):
  KT H (putK kvs k y) (storedH xs k b u):=by
 have e:(kvs.any fun kv=>decide (kv.1=k))=(atKey xs k).isSome:=by
  rw[dj,(r.val k).dU,Option.isSome_map]
 unfold putK storedH
 rw[e]
 by_cases q:(atKey xs k).isSome=true
 ·rw[if_pos q,if_pos q];exact r.yy k ry
 ·rw[if_neg q,if_neg q];exact Paired.snoc r ⟨rfl,hb,ry⟩
theorem KT.keeps {H H':Hp}{kvs:List (List Key×V)}{xs:List (List Key×Addr×Value)}(r:KT H kvs xs)(ht:∀b ys,H b=some (.tup ys)->H' b=some (.tup ys)):KT H' kvs xs:=
 Paired.zC r fun _ _ z=>⟨z.1,ht _ _ z.2.1,z.2.2⟩
section
variable {P:Program}{w:World}{H:Hp}{h:Heap}{a:Addr}
theorem xG {u:HO}(ok:d6 P w H h)(e:Rd H a u):ba P w H h a u:=e.ok ok
theorem jb {kvs:List (Key×V)}(ok:d6 P w H h)(e:Rd H a (.dK kvs)):kvs.length<=sizeLine/\(a==sysModules)=false/\∃vs,KV kvs vs/\h.DictOf (aP P w) a vs:=
 show ba P w H h a (.dK kvs) from xG ok e
theorem tL {kvs:List (Key×V)}(ok:d6 P w H h)(e:H a=some (.dK kvs)):kvs.length<=sizeLine/\(a==sysModules)=false/\∃vs,KV kvs vs/\h.DictOf (aP P w) a vs:=jb ok (.inl e)
theorem gY {ks:List Key}(ok:d6 P w H h)(e:H a=some (.tup (ks.map kV))):(tupleKind (aP P w)).is h ks a:=by
 obtain⟨_,au,r,o,h1,h2,n,h3⟩:=(show ba P w H h a (.tup (ks.map kV)) from ok a _ e)
 exact⟨o,au.toArray,n,h1,h2,h3,by simpa using jZ r⟩
theorem kC {kvs:List (List Key×V)}(ok:d6 P w H h)(e:Rd H a (.dT kvs)):kvs.length<=sizeLine/\(a==sysModules)=false /\
  ∃xs,KT H kvs xs/\h.DictOfH (tupleKind (aP P w)) a xs:=by
 obtain⟨z,y,xs,r,o,es,ep,h1,h2,h3,h4,h5⟩:=(show ba P w H h a (.dT kvs) from xG ok e)
 refine⟨z,y,xs,r,o,es,ep,h1,h2,h3,h4,fun x hx =>?_,h5⟩
 have all:∀{l:List (List Key×V)} {m:List (List Key×Addr×Value)},KT H l m->∀x∈m,(tupleKind (aP P w)).is h x.1 x.2.1:=by
  intro l m q
  induction q with
  | nil=>intro x hx;exact nomatch hx
  | @cons p q ps qs hq t ih=>
   intro x hx
   rcases Ug.mp hx with e|hx
   ·subst e
    exact gY ok (by rw[<-hq.1];exact hq.2.1)
   ·exact ih x hx
 exact all r x hx
theorem tO {kvs:List (List Key×V)}(ok:d6 P w H h)(e:H a=some (.dT kvs)):kvs.length<=sizeLine/\(a==sysModules)=false /\
  ∃xs,KT H kvs xs/\h.DictOfH (tupleKind (aP P w)) a xs:=kC ok (.inl e)
end
noncomputable def cN (H:Hp)(a:Addr)(y:V)(r:Option V):Prop:=
 (bV fun kvs k=>Rd H a (.dK kvs)/\y=kV k/\r=aq kvs k)∨dR fun kvs k b=>Rd H a (.dT kvs)/\y = .ref b/\H b=some (.tup (k.map kV))/\r=aq kvs k
noncomputable def gj (H:Hp)(a:Addr)(y v:V)(H':Hp):Prop:=
 (bV fun kvs k=>H a=some (.dK kvs)/\y=kV k/\kvs.length<sizeLine/\H'=upd H a (.dK (putK kvs k v))) ∨
 dR fun kvs k b=>H a=some (.dT kvs)/\y = .ref b/\H b=some (.tup (k.map kV))/\kvs.length<sizeLine/\H'=upd H a (.dT (putK kvs k v))
theorem cN.k {H:Hp}{a:Addr}{kvs:List (Key×V)}{k:Key}(e:H a=some (.dK kvs)):cN H a (kV k) (aq kvs k) := .inl ⟨kvs,k,.inl e,rfl,rfl⟩
theorem cN.t {H:Hp}{a b:Addr}{kvs:List (List Key×V)}{k:List Key}(e:H a=some (.dT kvs))(eb:H b=some (.tup (k.map kV))):cN H a (.ref b) (aq kvs k) := .inr ⟨kvs,k,b,.inl e,rfl,eb,rfl⟩
theorem gj.k {H:Hp}{a:Addr}{kvs:List (Key×V)}{k:Key}{v:V}(e:H a=some (.dK kvs))(hl:kvs.length<sizeLine):gj H a (kV k) v (upd H a (.dK (putK kvs k v))) := .inl ⟨kvs,k,e,rfl,hl,rfl⟩
theorem gj.t {H:Hp}{a b:Addr}{kvs:List (List Key×V)}{k:List Key}{v:V}(e:H a=some (.dT kvs))(eb:H b=some (.tup (k.map kV)))(hl:kvs.length<sizeLine):
  gj H a (.ref b) v (upd H a (.dT (putK kvs k v))) := .inr ⟨kvs,k,b,e,rfl,eb,hl,rfl⟩
section
variable {X:Cx}{pins:List (Addr×Obj)}{σ:St}{H:Hp}{s:Shared}{a:Addr}{y v:V}{u r:Value}{o:Option V}{A:Around}{E:Value->Shared->Prop}
theorem Inv.big (I:Inv X pins σ H s):sysModules<s.heap.objs.size:=by
 have h:mainGlobals<s.heap.objs.size:=(I.mod.glob.keeps I.bk).lt
 exact Nat.lt_trans (by decide) h
theorem rp {Q:Value->Shared->Prop}(hu:A.units+1<cLine)(I:Inv X pins σ H s)(g:cN H a y (some v))(ry:RelV y u)(h:∀w' s',Inv X pins σ H s'->RelV v w'->Q w' s'):
  wpAny (model X.prog X.w) A (getItem (.ref a) u) Q E s:=by
 rcases g with ⟨kvs,k,e,ey,l⟩|⟨kvs,k,b,e,ey,eb,l⟩
 ·subst ey
  obtain⟨z,hd,vs,rel,dd⟩:=jb I.aN e
  obtain⟨w',hw,qp⟩:=i6.some_of (v:=v) (o:=valueAt vs k) (by rw[l];exact rel.val k)
  exact wpAny_getItem_of (jr ry) dd.mapOf hw (h w' _ (I.tok _) qp)
 ·subst ey
  cases (show u=Value.ref b from ry)
  obtain⟨z,hd,xs,rel,dd⟩:=kC I.aN e
  obtain⟨w',hw,qp⟩:=i6.some_of (v:=v) (o:=(atKey xs k).map (·.2)) (by rw[l];exact rel.val k)
  obtain⟨p,hp,zF⟩:=Option.map_eq_some_iff.mp hw
  refine wpAny_getItem_heap (tupleKind_room_in1 hu) (gY I.aN eb) dd hp ?_
  rw[zF]
  exact h w' _ (I.tok _) qp
theorem FK {Q:Value->Shared->Prop}(hu:A.units+1<cLine)(I:Inv X pins σ H s)(g:cN H a y o)(ry:RelV y u)(h:∀s',Inv X pins σ H s'->Q (.bool o.isSome) s'):
  wpAny (model X.prog X.w) A (compareOp .In u (.ref a)) Q E s:=by
 rcases g with ⟨kvs,k,e,ey,l⟩|⟨kvs,k,b,e,ey,eb,l⟩
 ·subst ey
  obtain⟨z,hd,vs,rel,dd⟩:=jb I.aN e
  refine wpAny_in_of (jr ry) hd dd.mapOf ?_
  rw[<-(rel.val k).dU,<-l]
  exact h _ (I.tok _)
 ·subst ey
  cases (show u=Value.ref b from ry)
  obtain⟨z,hd,xs,rel,dd⟩:=kC I.aN e
  refine wpAny_in_heap (tupleKind_room_in1 hu) (gY I.aN eb) hd dd ?_
  have q:=(rel.val k).dU
  rw[Option.isSome_map] at q
  rw[<-q,<-l]
  exact h _ (I.tok _)
theorem wX {Q:Value->Shared->Prop}(hu:A.units+1<cLine)(I:Inv X pins σ H s)(g:cN H a y o)(ry:RelV y u)(h:∀s',Inv X pins σ H s'->Q (.bool (!o.isSome)) s'):
  wpAny (model X.prog X.w) A (compareOp .NotIn u (.ref a)) Q E s:=by
 rcases g with ⟨kvs,k,e,ey,l⟩|⟨kvs,k,b,e,ey,eb,l⟩
 ·subst ey
  obtain⟨z,hd,vs,rel,dd⟩:=jb I.aN e
  refine wpAny_notIn_of (jr ry) hd dd.mapOf ?_
  rw[<-(rel.val k).dU,<-l]
  exact h _ (I.tok _)
 ·subst ey
  cases (show u=Value.ref b from ry)
  obtain⟨z,hd,xs,rel,dd⟩:=kC I.aN e
  refine wpAny_notIn_heap (tupleKind_room_in1 hu) (gY I.aN eb) hd dd ?_
  have q:=(rel.val k).dU
  rw[Option.isSome_map] at q
  rw[<-q,<-l]
  exact h _ (I.tok _)
theorem fH {h':Heap}{t':Nat}{ob:HO}(I:Inv X pins σ H s)(mu:AN (H a))(hs:Yd a s.heap h')(he:∃q,h'.get? a=some q)(new:ba X.prog X.w (upd H a ob) h' a ob):
  Inv X pins σ (upd H a ob) { s with heap:=h',toks:=t' }:=
 I.write (x:=a) (e:=a) mu (.inl rfl) (fun b q hb z=>(hs.2 b hb).trans z) he new
theorem lB {P:Program}{w:World}{H':Hp}{h':Heap}{kvs:List (Key×V)}{vs:List (Key×Value)}(z:kvs.length<=sizeLine)(hd:(a==sysModules)=false)(rel:KV kvs vs)(dd:h'.DictOf (aP P w) a vs):
  ba P w H' h' a (.dK kvs):=⟨z,hd,vs,rel,dd⟩
theorem qJ {H':Hp}{Q:Unit->Shared->Prop}(hu:A.units+1<cLine)(I:Inv X pins σ H s)(g:gj H a y v H')(ry:RelV y u)(rv:RelV v r)(h:∀s',Inv X pins σ H' s'->Q () s'):
  wpAny (model X.prog X.w) A (setItem (.ref a) u r) Q E s:=by
 rcases g with ⟨kvs,k,e,ey,l,eH⟩|⟨kvs,k,b,e,ey,eb,l,eH⟩
 ·subst ey eH
  obtain⟨z,hd,vs,rel,dd⟩:=tL I.aN e
  have hz:vs.length<=sizeLine:=by rw[<-rel.length];exact z
  have hl:(putK kvs k v).length<=sizeLine:=by have:=cO kvs k v;omega
  refine wpAny_setItem_pairs (hsz:=hz) (jr ry) dd fun h' dd' hs=>h _ ?_
  have he:∃q,h'.get? a=some q:=let ⟨q,_,_,hq,_⟩:=dd'; ⟨q,hq⟩
  exact fH I (by rw[e];exact True.intro) hs he (lB hl hd (rel.put k rv) dd')
 ·subst ey eH
  cases (show u=Value.ref b from ry)
  obtain⟨z,hd,xs,rel,dd⟩:=tO I.aN e
  have hz:xs.length<=sizeLine:=by rw[<-Paired.length rel];exact z
  have hl:(putK kvs k v).length<=sizeLine:=by have:=cO kvs k v;omega
  refine wpAny_setItem_heap (hsz:=hz) (tupleKind_room_in1 hu) (gY I.aN eb) dd fun h' dd' hs=>h _ ?_
  obtain⟨q,es,ep,hq,h2,h3,h4,_,h5⟩:=dd'
  refine fH I (by rw[e];exact True.intro) hs ⟨q,hq⟩ ⟨hl,hd,_,(rel.put k eb rv).keeps fun c ys ec =>?_,q,es,ep,hq,h2,h3,h4,h5⟩
  rw[aj (uC ec e (fun z=>nomatch z))]
  exact ec
end
section
variable {X:Cx}{pins:List (Addr×Obj)}{σ:St}{H:Hp}{s:Shared}{a:Addr}{kvs:List (Key×V)}{k:Key}{u:Value}{A:Around}{E:Value->Shared->Prop}
theorem CA {Q:Value->Shared->Prop}(I:Inv X pins σ H s)(e:Rd H a (.dK kvs))(h:∀t s',Inv X pins σ H s'->Q (.int kvs.length t) s'):wpAny (model X.prog X.w) A (call (.builtin "len") [.ref a]) Q E s:=by
 obtain⟨z,hd,vs,rel,dd⟩:=jb I.aN e
 refine call_len_dict hd dd (by rw[<-rel.length];rw[sizeLine_eq] at z;omega) ?_
 rw[<-rel.length]
 exact h _ _ (I.tok _)
end
noncomputable def CM (i:Expr):Prop:=∀ov iv,subscripted i false ov iv=operate [ov,iv] (getItem ov iv)
theorem wH {prog:Program}{w:World}{A:Around}{E:Value->Shared->Prop}{s:Shared}{env:Env}{value slice:Expr}{pos:Pos}{T id:String}{Q:Value->Shared->Prop}
  (hl:typeLookup (.type T) "__getitem__" = pure (some (.builtin id))) (hs:CM slice)
  (h:wpAny (model prog w) A (eval value env) (fun o s₁=>wpAny (model prog w) A (eval slice env) (fun i s₂=>s₂.TypeIs o T/\wpAny (model prog w) A (getItem o i) Q E s₂) E s₁) E s) :
  wpAny (model prog w) A (eval (.Subscript value slice pos) env) Q E s:=by
 refine Subscript_ (wpAny_mono h (fun o s₁ h₁=>wpAny_mono h₁ (fun i s₂ h₂ =>?_) fun _ _ x=>x) fun _ _ x=>x)
 obtain⟨hT,h₂⟩:=h₂
 unfold subscriptTail
 refine wpAny_bind ?_
 rw[getitemInPython_of_ne hT.not_modules]
 refine wpAny_bind (wpAny_specialOf hT hl ?_)
 have fin:wpAny (model prog w) A (subscripted slice false o i) (fun r s₃=>wpAny (model prog w) A (letTemporaryGo value o r >>= fun _=>pure r) Q E s₃) E s₂:=by
  rw[hs o i]
  exact wpAny_operating (wpAny_mono h₂ (fun r s₃ h₃=>wpAny_bind (wpAny_letTemporaryGo (wpAny_pure h₃))) fun _ _ x=>x)
 first
  | exact wpAny_pure (wpAny_bind fin)
  | exact wpAny_bind (wpAny_pure (wpAny_bind fin))
  | exact wpAny_bind fin
theorem mZ {X:Cx}{pins:List (Addr×Obj)}{σ:St}{H:Hp}{s:Shared}{a:Addr}{y:V}{o:Option V}(I:Inv X pins σ H s)(g:cN H a y o):s.TypeIs (.ref a) "dict":=by
 rcases g with ⟨kvs,k,e,_,_⟩|⟨kvs,k,b,e,_,_,_⟩
 ·obtain⟨_,_,vs,_,dd⟩:=jb I.aN e
  exact dd.typeIs
 ·obtain⟨_,_,xs,_,dd⟩:=kC I.aN e
  exact dd.typeIs
noncomputable def B0 (td ty:TE):TE:=fun σ H Q=>td σ H fun x H1=>ty σ H1 fun y H2=>bV fun a v=>x = .ref a/\cN H2 a y (some v)/\Q v H2
noncomputable def GA (ty td:TE):TE:=fun σ H Q=>ty σ H fun y H1=>td σ H1 fun x H2=>bV fun a o=>x = .ref a/\cN H2 a y o/\Q (.bl o.isSome) H2
noncomputable def vH (ty td:TE):TE:=fun σ H Q=>ty σ H fun y H1=>td σ H1 fun x H2=>bV fun a o=>x = .ref a/\cN H2 a y o/\Q (.bl (!o.isSome)) H2
noncomputable def BM (td ty tv:TE):TS:=fun D σ H=>tv σ H fun v H1=>td σ H1 fun x H2=>ty σ H2 fun y H3=>bV fun a H4=>x = .ref a/\gj H3 a y v H4/\D.nx σ H4
section
variable {X:Cx}{o i e value:Expr}{pos pos' JT:Pos}{td ty tv:TE}
theorem cc (hu:X.A.units+1<cLine)(ho:PE X o td)(hi:PE X i ty)(hs:CM i):PE X (.Subscript o i pos) (B0 td ty):=by
 intro pins s σ H Q I h
 refine wH PySem.F.slot_dict_getitem.lookup hs (aM (ho s σ H _ I h) fun u s1 hz_=>ae.el hz_ _ fun x H1 I1 rx q1=>aM (hi s1 σ H1 _ I1 q1) fun iv s2 hz_ =>?_)
 refine ae.el hz_ _ ?_
 clear hz_
 rintro y H2 I2 ry ⟨a,v,ex,g,q2⟩
 subst ex
 obtain rfl:u=Value.ref a:=rx
 exact⟨mZ I2 g,rp hu I2 g ry fun w' s3 I3 qp=>⟨v,H2,I3,qp,q2⟩⟩
theorem lV (hu:X.A.units+1<cLine)(hi:PE X i ty)(ho:PE X o td):PC X .In i o (GA ty td):=by
 intro pins s σ H Q I h
 refine aM (hi s σ H _ I h) fun iv s1 hz_=>ae.el hz_ _ fun y H1 I1 ry q1=>aM (ho s1 σ H1 _ I1 q1) fun u s2 hz_ =>?_
 refine ae.el hz_ _ ?_
 clear hz_
 rintro x H2 I2 rx ⟨a,ov,ex,g,q2⟩
 subst ex
 obtain rfl:u=Value.ref a:=rx
 exact FK hu I2 g ry fun s3 I3=>⟨.bl ov.isSome,H2,I3,rfl,q2⟩
theorem fE (hu:X.A.units+1<cLine)(hi:PE X i ty)(ho:PE X o td):PC X .NotIn i o (vH ty td):=by
 intro pins s σ H Q I h
 refine aM (hi s σ H _ I h) fun iv s1 hz_=>ae.el hz_ _ fun y H1 I1 ry q1=>aM (ho s1 σ H1 _ I1 q1) fun u s2 hz_ =>?_
 refine ae.el hz_ _ ?_
 clear hz_
 rintro x H2 I2 rx ⟨a,ov,ex,g,q2⟩
 subst ex
 obtain rfl:u=Value.ref a:=rx
 exact wX hu I2 g ry fun s3 I3=>⟨.bl (!ov.isSome),H2,I3,rfl,q2⟩
theorem gI (hu:X.A.units+1<cLine)(ho:PE X o td)(hi:PE X i ty)(hv:PE X value tv)(hs:swapsWith value (some (.Subscript o i pos')) pos.line X.env=pure false):
  PS X (.Assign [.Subscript o i pos'] value pos) (BM td ty tv):=by
 intro pins s σ H D I h
 refine wpAny_Assign_Subscript (aM (hv s σ H _ I h) fun r s1 ⟨v,H1,I1,rv,q1⟩=>aM (ho s1 σ H1 _ I1 q1) fun u s2 ⟨x,H2,I2,rx,q2⟩=>aM (hi s2 σ H2 _ I2 q2) fun iv s3 ⟨y,H3,I3,ry,a,H4,ex,g,q3⟩=>?_) hs
 subst ex
 obtain rfl:u=Value.ref a:=rx
 exact qJ hu I3 g ry rv fun s4 I4=>⟨σ,H4,I4,q3⟩
end
theorem gL {P:Program}{w:World}{H:Hp}(h:Heap)(hb:sysModules<h.objs.size):ba P w H (h.push { cls := .type "dict",data := .dict #[] }) h.objs.size (.dK []):=
 ⟨Um _,beq_eq_false_iff_ne.mpr (Ne.symm (J5 hb)),[],.nil,Heap.DictOf.new h⟩
theorem tQ {P:Program}{w:World}{H:Hp}(h:Heap)(hb:sysModules<h.objs.size):ba P w H (h.push { cls := .type "dict",data := .dict #[] }) h.objs.size (.dT []):=
 ⟨Um _,beq_eq_false_iff_ne.mpr (Ne.symm (J5 hb)),[],.nil,_,#[],0,Js _ rfl,⟨rfl,rfl,rfl⟩,rfl,rfl,List.nodup_nil⟩
noncomputable def tK:TE:=fun _ H Q=>∀p,H p=none->Q (.ref p) (upd H p (.dK []))
section
variable {X:Cx}{pos:Pos}
theorem si:PE X (.Dict [] [] pos) tK:=fun pins s σ H Q I h=>
 wpAny_Dict_empty ⟨.ref s.heap.objs.size,_,I.laid (a:=s.heap.objs.size) (o := .dK []) (t':=s.toks) (fun _ _ q=>Jc _ q) (Je _) (gL s.heap I.big),rfl,h _ (I.aN.fresh (Je _))⟩
end
noncomputable def ji:List (TE×TE)->St->Hp->(List (V×V)->Hp->Prop)->Prop
 | [],_,H,Q=>Q [] H
 | (tk,tv)::r,σ,H,Q=>tk σ H fun x H1=>tv σ H1 fun y H2=>ji r σ H2 fun ps H3=>Q ((x,y)::ps) H3
noncomputable abbrev VV:List (V×V)->List (Value×Value)->Prop:=Paired fun p q=>RelV p.1 q.1/\RelV p.2 q.2
noncomputable def Cm (X:Cx)(pos:Pos)(keys:List (Option Expr))(values:List Expr)(nh:List (TE×TE)):Prop:=
 ∀ ⦃pins:List (Addr×Obj)⦄ (s:Shared) (σ:St) (H:Hp) (Q:List (V×V)->Hp->Prop),Inv X pins σ H s->ji nh σ H Q ->
  wpAny (model X.prog X.w) X.A (evalPairs (pairTrees keys values X.env pos)) (fun vs s'=>bV fun ps H'=>Inv X pins σ H' s'/\VV ps vs/\Q ps H') X.xe s
theorem pB {X:Cx}{pos:Pos}:Cm X pos [] [] []:=fun pins s σ H Q I h=>pairTrees_nil_walk ⟨[],H,I,.nil,h⟩
theorem jC {X:Cx}{pos:Pos}{k v:Expr}{ks:List (Option Expr)}{vs:List Expr}{tk tv:TE}{nh:List (TE×TE)}(hk:PE X k tk)(hv:PE X v tv)(hr:Cm X pos ks vs nh):
  Cm X pos (some k::ks) (v::vs) ((tk,tv)::nh):=fun pins s σ H Q I h=>
 pairTrees_cons_walk (aM (hk s σ H _ I h) fun u s1 hz_=>ae.el hz_ _ fun x H1 I1 rx q1=>aM (hv s1 σ H1 _ I1 q1) fun w2 s2 ⟨y,H2,I2,ry,q2⟩=>
  aM (hr s2 σ H2 _ I2 q2) fun ws s3 hz_=>ae.el hz_ _ fun ps H3 I3 rel q3=>⟨(x,y)::ps,H3,I3,.cons ⟨rx,ry⟩ rel,q3⟩)
noncomputable def dI (kvs more:List (Key×V)):List (Key×V):=more.foldl (fun acc kv=>putK acc kv.1 kv.2) kvs
theorem KV.merge:∀{more:List (Key×V)} {rs:List (Key×Value)} {kvs:List (Key×V)} {vs:List (Key×Value)},KV more rs->KV kvs vs->KV (dI kvs more) (merged vs rs):=by
 intro more rs kvs vs r
 unfold KV at r
 induction r generalizing kvs vs with
 | nil=>intro q;exact q
 | @cons p q ps qs h t ih=>
  intro r0
  have e:KV (putK kvs p.1 p.2) (stored vs q.1 q.2):=by
   have:=r0.put p.1 h.2
   rw[<-h.1];exact this
  exact ih e
theorem dM:∀(more kvs:List (Key×V)),(dI kvs more).length<=kvs.length+more.length
 | [],kvs=>by show kvs.length<=kvs.length+0;omega
 | p::r,kvs=>by
  have h1:=dM r (putK kvs p.1 p.2)
  have h2:=cO kvs p.1 p.2
  show(dI (putK kvs p.1 p.2) r).length<=_
  rw[J1];omega
theorem jI {P:Program}{w:World}:∀{kvs:List (Key×V)} {ws:List (Value×Value)},VV (kvs.map fun kv=>(kV kv.1,kv.2)) ws->∃rs,Carries (aP P w) ws rs/\KV kvs rs
 | [],_,r=>by rw[List.map_nil] at r;cases r;exact⟨[],True.intro,.nil⟩
 | p::kvs,_,r=>by
  rw[Ui] at r
  cases r with
  | @cons a b as bs h t=>
   obtain⟨rs,c,q⟩:=jI (P:=P) (w:=w) t
   obtain⟨b1,b2⟩:=b
   exact⟨(p.1,b2)::rs,⟨jr h.1,rfl,c⟩,.cons ⟨rfl,h.2⟩ q⟩
noncomputable def uE (nh:List (TE×TE)):TE:=fun σ H Q=>∀p,H p=none->ji nh σ (upd H p (.dK [])) fun ps H2=>H2 p=some (.dK [])/\∃kvs:List (Key×V),ps=kvs.map (fun kv=>(kV kv.1,kv.2))/\kvs.length<=15/\Q (.ref p) (upd H2 p (.dK (dI [] kvs)))
theorem w6 {X:Cx}{pos:Pos}{keys:List (Option Expr)}{values:List Expr}{nh:List (TE×TE)}(h:Cm X pos keys values nh)(cU:keys.all (·.isSome)=true)(hl:keys.length=values.length)(h0:keys≠[])
  (FL:keys.length<=15):PE X (.Dict keys values pos) (uE nh):=by
 intro pins s σ H Q I q
 have hn:=I.aN.fresh (Je s.heap.objs.size)
 have I1:=I.laid (a:=s.heap.objs.size) (o := .dK []) (h':=s.heap.push { cls := .type "dict",data := .dict #[] }) (t':=s.toks) (fun _ _ q=>Jc _ q) (Je _) (gL s.heap I.big)
 refine wpAny_Dict_walk (knd:=aP X.prog X.w) cU hl h0 FL (aM (h _ σ _ _ I1 (q _ hn)) fun ws s2 hz_=>ae.el hz_ _ fun ps H2 I2 rel e kvs ep lk q2 =>?_)
 subst ep
 obtain⟨rs,c,rk⟩:=jI (P:=X.prog) (w:=X.w) rel
 obtain⟨z,hd,vs0,r0,dd⟩:=tL I2.aN e
 cases r0
 refine⟨rs,c,dd,fun h' dd' hs=>⟨.ref s.heap.objs.size,_,?_,rfl,q2⟩⟩
 have hz:(dI [] kvs).length<=sizeLine:=by
  have h1:=dM kvs []
  rw[Ys] at h1
  rw[sizeLine_eq];omega
 have he:∃q,h'.get? s.heap.objs.size=some q:=let ⟨q,_,_,hq,_⟩:=dd'; ⟨q,hq⟩
 exact fH I2 (by rw[e];exact True.intro) hs he (lB hz hd (rk.merge .nil) dd')
end L2
namespace HT
open PySem PyProof.Rows
section
variable {prog:Program}{w:World}{A:Around}{E:Value->Shared->Prop}{s:Shared}
noncomputable def mP (n d:Nat):Option Int->Nat
 | none=>d
 | some v=>if v<0 then (v+(n:Int)).toNat else min v.toNat n
theorem rU (n d:Nat):mP n d none=d:=rfl
theorem wQ (n d k:Nat):mP n d (some (k:Int))=min k n:=by
 show(if (k:Int)<0 then ((k:Int)+(n:Int)).toNat else min (k:Int).toNat n)=min k n
 rw[if_neg (by omega),Uz]
end
end HT
namespace L2
open PySem PySem.Spec PyProof.Rows
noncomputable abbrev TO:=St->Hp->(Option Int->Hp->Prop)->Prop
noncomputable def PO (X:Cx)(e:Option Expr)(t:TO):Prop:=
 ∀ ⦃pins:List (Addr×Obj)⦄ (s:Shared) (σ:St) (H:Hp) (Q:Option Int->Hp->Prop),Inv X pins σ H s->t σ H Q ->
  wpAny (model X.prog X.w) X.A (evalPart e X.env) (fun u s'=>bV fun o H'=>Inv X pins σ H' s'/\IsPart u o/\Q o H') X.xe s
noncomputable def fL:TO:=fun _ H Q=>Q none H
noncomputable def xm (t:TE):TO:=fun σ H Q=>t σ H fun x H1=>∃i,x = .int i/\Q (some i) H1
section
variable {X:Cx}{e:Expr}{te:TE}{lo hi:Option Expr}{tl th:TO}{pos p2:Pos}
theorem dc:PO X none fL:=by
 intro pins s σ H Q I h
 rw[evalPart_none]
 exact wpAny_pure ⟨none,H,I,.none,h⟩
theorem cZ (h:PE X e te):PO X (some e) (xm te):=by
 intro pins s σ H Q I hw
 rw[evalPart_some]
 refine aM (h s σ H _ I hw) fun u s1 hz_ =>?_
 refine ae.el hz_ _ ?_
 clear hz_
 rintro x H1 I1 r1 q1
 obtain⟨i,rfl,q⟩:=q1
 obtain⟨t,rfl⟩:=r1
 exact⟨some i,H1,I1,.int i t,q⟩
noncomputable def u5 (X:Cx)(r:V->Option Int->Option Int->Hp->VK->Prop):Prop:=
 ∀ ⦃pins:List (Addr×Obj)⦄ (s:Shared) (σ:St) (H:Hp) (x:V) (v vl vu:Value) (lo hi:Option Int) (sl:Addr) (Q:VK),Inv X pins σ H s->RelV x v->s.heap.IsSliceOf sl vl vu .none->IsPart vl lo->IsPart vu hi->r x lo hi H Q ->
  bV fun T id=>typeLookup (.type T) "__getitem__" = pure (some (.builtin id))/\s.TypeIs v T/\wpAny (model X.prog X.w) X.A (getItem v (.ref sl)) (EP X pins σ Q) X.xe s
theorem u5.or {r r':V->Option Int->Option Int->Hp->VK->Prop}(h:u5 X r)(h':u5 X r'):u5 X (fun x lo hi H Q=>r x lo hi H Q∨r' x lo hi H Q):=by
 intro pins s σ H x v vl vu lo hi sl Q I rx hs pl pu q
 rcases q with q|q
 ·exact h s σ H x v vl vu lo hi sl Q I rx hs pl pu q
 ·exact h' s σ H x v vl vu lo hi sl Q I rx hs pl pu q
noncomputable def HZ (r:V->Option Int->Option Int->Hp->VK->Prop)(te:TE)(tl th:TO):TE:=fun σ H Q=>te σ H fun x H1=>tl σ H1 fun l H2=>th σ H2 fun u H3=>r x l u H3 Q
theorem cD {r:V->Option Int->Option Int->Hp->VK->Prop}(hr:u5 X r)(he:PE X e te)(hl:PO X lo tl)(hu:PO X hi th):PE X (.Subscript e (.Slice lo hi none p2) pos) (HZ r te tl th):=by
 intro pins s σ H Q I h
 refine Subscript_ (aM (he s σ H _ I h) fun v s1 hz_ =>?_)
 refine ae.el hz_ _ ?_
 clear hz_
 rintro x H1 I1 r1 q1
 refine wpAny_Slice (aM (hl s1 σ H1 _ I1 q1) fun vl s2 hz_=>ae.el hz_ _ fun l H2 I2 pl q2=>aM (hu s2 σ H2 _ I2 q2) fun vu s3 hz_ =>?_)
 refine ae.el hz_ _ ?_
 clear hz_
 rintro u H3 I3 pu q3
 rw[evalPart_none]
 refine wpAny_pure ?_
 have I4:Inv X pins σ H3 { s3 with heap:=s3.heap.push { cls := .type "slice",data := .fields #[vl,vu,.none] } }:=I3.kept (t':=s3.toks) fun b ob q=>Jc _ q
 obtain⟨T,id,hT,ht,hg⟩:=hr { s3 with heap:=s3.heap.push { cls := .type "slice",data := .fields #[vl,vu,.none] } } σ H3 x v vl vu l u s3.heap.objs.size Q I4 r1 (Heap.IsSliceOf.new ..) pl pu q3
 show wpAny (model X.prog X.w) X.A (subscriptTail e (.Slice lo hi none p2) v (.ref s3.heap.objs.size)) (EP X pins σ Q) X.xe { s3 with heap:=s3.heap.push { cls := .type "slice",data := .fields #[vl,vu,.none] } }
 exact tail_any (ops:=[.ref s3.heap.objs.size,v]) ht hT hg (by with_unfolding_all rfl)
noncomputable def nN (xs:List V)(lo hi:Option Int):List V:=(xs.drop (HT.mP xs.length 0 lo)).take (HT.mP xs.length xs.length hi-HT.mP xs.length 0 lo)
theorem ni (xs:List V)(lo hi:Option Int):(nN xs lo hi).length<=xs.length:=by
 unfold nN
 rw[J3,Uw]
 omega
end
noncomputable def sf (n:Nat)(i:Int):Option Nat:=if 0<=i then (if i<n then some i.toNat else none) else if -(n:Int)<=i then some (i+n).toNat else none
noncomputable def oJ {α:Type}(xs:List α)(i:Int):Option α:=(sf xs.length i).bind fun j=>xs[j]?
theorem kQ {n:Nat}{i:Int}{j:Nat}(h:sf n i=some j):seqIndex? i n=some j/\j<n /\ -(n:Int)<=i/\i<n:=by
 unfold sf at h
 by_cases h0:0<=i
 ·rw[if_pos h0] at h
  by_cases h1:i<n
  ·rw[if_pos h1] at h
   have e:i.toNat=j:=Option.some.inj h
   exact⟨by rw[seqIndex_of h0 h1,e],by omega,by omega,h1⟩
  ·rw[if_neg h1] at h;cases h
 ·rw[if_neg h0] at h
  by_cases h1: -(n:Int)<=i
  ·rw[if_pos h1] at h
   have e:(i+n).toNat=j:=Option.some.inj h
   exact⟨by rw[seqIndex_neg (by omega) h1,e],by omega,h1,by omega⟩
  ·rw[if_neg h1] at h;cases h
theorem iX {α:Type}{xs:List α}{i:Int}{v: α}(h:oJ xs i=some v):∃j,seqIndex? i xs.length=some j/\xs[j]? = some v/\j<xs.length /\ -(xs.length:Int)<=i/\i<xs.length:=by
 unfold oJ at h
 cases e:sf xs.length i with
 | none=>rw[e] at h;cases h
 | some j=>
  rw[e] at h
  obtain⟨h1,h2,h3,h4⟩:=kQ e
  exact⟨j,h1,h,h2,h3,h4⟩
theorem lH {α:Type}{xs:List α}{j:Nat}{v: α}(h:xs[j]? = some v):oJ xs (j:Int)=some v:=by
 have hj:j<xs.length:=(Ju.mp h).1
 have e:sf xs.length (j:Int)=some j:=by
  unfold sf
  rw[if_pos (by omega),if_pos (by omega)];simp
 unfold oJ;rw[e];exact h
noncomputable def vk (b:Expr):Prop:=∀o i,subscripted b false o i=operate [o,i] (getItem o i)
noncomputable def vd (X:Cx)(r:R2):Prop:=
 ∀ ⦃value slice:Expr⦄ ⦃pins:List (Addr×Obj)⦄ (s:Shared) (σ:St) (H:Hp) (x y:V) (v u:Value) (Q:VK),Inv X pins σ H s->RelV x v->RelV y u->r x y H Q ->
  subscripted slice false v u=operate [v,u] (getItem v u)->wpAny (model X.prog X.w) X.A (subscriptTail value slice v u) (EP X pins σ Q) X.xe s
noncomputable def yh (X:Cx)(id:String)(r:V->List V->Hp->VK->Prop):Prop:=
 ∀ ⦃pins:List (Addr×Obj)⦄ (s:Shared) (σ:St) (H:Hp) (x:V) (xs:List V) (v:Value) (us:List Value) (Q:VK),Inv X pins σ H s->RelV x v->Vals xs us->r x xs H Q ->
  wpAny (model X.prog X.w) X.A (call (.builtin id) (v::us)) (EP X pins σ Q) X.xe s
section
variable {X:Cx}{a b:Expr}{ta tb:TE}{pos:Pos}
theorem vd.or {r r':R2}(h:vd X r)(h':vd X r'):vd X (fun x y H Q=>r x y H Q∨r' x y H Q):=by
 intro value slice pins s σ H x y v u Q I rx ry q hs
 rcases q with q|q
 ·exact h s σ H x y v u Q I rx ry q hs
 ·exact h' s σ H x y v u Q I rx ry q hs
theorem kI {r:R2}(hr:vd X r)(ha:PE X a ta)(hb:PE X b tb)(hs:vk b):PE X (.Subscript a b pos) (Ci r ta tb):=by
 intro pins s σ H Q I h
 exact Subscript_ (zS ha hb I h fun v u s2 x y H2 I2 rx ry q=>hr s2 σ H2 x y v u Q I2 rx ry q (hs _ _))
noncomputable def CP (K:Jd):R2:=fun x y H Q=>pO fun p xs i v=>x = .ref p/\y = .int i/\aB K H p xs/\oJ xs i=some v/\Q v H
noncomputable def BN (K:Jd):R2:=fun x y H Q=>pO fun p xs i v=>x = .ref p/\y = .int i/\iC K H p xs/\oJ xs i=some v/\Q v H
noncomputable def Ca:R2:=fun x y H Q=>dR fun z i c=>x = .str z/\y = .int i/\z.length<=sizeLine/\oJ z.cps.toList i=some c/\Q (.str ⟨#[c]⟩) H
theorem wF:vd X (CP X.K):=by
 intro value slice pins s σ H x y v u Q I rx ry h hs
 obtain⟨p,xs,i,z,rfl,rfl,hq,he,q⟩:=h
 cases rx
 obtain⟨t,rfl⟩:=ry
 obtain⟨au,r,pl,hz⟩:=I.list hq
 obtain⟨j,h1,h2,h3,h4,h5⟩:=iX he
 obtain⟨w,ew,qp⟩:=r.get h2
 have hl:=r.length
 have hn:=gX
 have fin:EP X pins σ Q w s:=⟨z,H,I,qp,q⟩
 by_cases h0:0<=i
 ·have hj:i.toNat=j:=by
   rw[seqIndex_of h0 h5] at h1
   exact Option.some.inj h1
  exact item_listR pl.isList h0 (by omega) (by rw[hj];simpa using ew) fin hs
 ·have hj:(i+(au.toArray.size:Int)).toNat=j:=by
   rw[seqIndex_neg (by omega) h4] at h1
   rw[Jl,<-hl]
   exact Option.some.inj h1
  exact subscriptTail_builtinR (x:=w) pl.isList.typeIs slot_list_getitem.lookup
   (wpAny_getItem_list_neg (Q:=fun r s'=>r=w/\EP X pins σ Q r s') pl.isList (by omega) (by rw[Jl]<;>omega) (by omega) (by rw[hj];simpa using ew) ⟨rfl,fin⟩) hs
theorem yj:vd X (BN X.K):=by
 intro value slice pins s σ H x y v u Q I rx ry h hs
 obtain⟨p,xs,i,z,rfl,rfl,hq,he,q⟩:=h
 cases rx
 obtain⟨t,rfl⟩:=ry
 obtain⟨au,r,pl,hz⟩:=I.tuple hq
 obtain⟨j,h1,h2,h3,h4,h5⟩:=iX he
 obtain⟨w,ew,qp⟩:=r.get h2
 have hl:=r.length
 have hn:=gX
 have fin:EP X pins σ Q w s:=⟨z,H,I,qp,q⟩
 exact subscriptTail_builtinR (x:=w) pl.typeIs slot_tuple_getitem.lookup
  (getItem_tuple (j:=j) (Q:=fun r s'=>r=w/\EP X pins σ Q r s') pl (by omega) (by omega) (by rw[Jl,<-hl];exact h1) (by simpa using ew) ⟨rfl,fin⟩) hs
theorem yA:vd X Ca:=by
 intro value slice pins s σ H x y v u Q I rx ry h hs
 obtain⟨z,i,c,rfl,rfl,hz,he,q⟩:=h
 obtain⟨t,rfl⟩:=rx
 obtain⟨t',rfl⟩:=ry
 obtain⟨j,h1,h2,h3,h4,h5⟩:=iX he
 have hl:z.cps.toList.length=z.length:=by simp[Str.length]
 rw[hl] at h1 h4 h5
 have hn:=gX
 exact tail_any (typeIs_str s z t) slot_str_getitem.lookup (getItem_str (c:=c) (by
  have e1:decide (i < -(2^63:Int))=false:=decide_eq_false (by omega)
  have e2:decide (i>=2^63)=false:=decide_eq_false (by omega)
  rw[e1,e2,Bool.or_false]) (by rw[h1];simpa using h2) ⟨.str ⟨#[c]⟩,H,I.tok _,⟨_,rfl⟩,q⟩) hs
noncomputable def Hw (K:Jd):R2:=fun x y H Q=>CP K x y H Q∨BN K x y H Q∨Ca x y H Q
theorem ym:vd X (Hw X.K):=wF.or (yj.or yA)
theorem oX (au:List Value)(n j:Nat)(u:Value):Obj.mapSeq (·.setIfInBounds j u) { cls := .type "list",data := .seq au.toArray n } = { cls := .type "list",data := .seq (au.set j u).toArray n }:=by
 simp[Obj.mapSeq]
theorem Inv.lst {pins:List (Addr×Obj)}{σ:St}{H:Hp}{s:Shared}{p:Addr}{xs:List V}(I:Inv X pins σ H s)(h:H p=some (.lst xs)):
  ∃(au:List Value) (n:Nat),Vals xs au/\s.heap.get? p=some { cls := .type "list",data := .seq au.toArray n } /\ xs.length<=sizeLine:=by
 obtain⟨z,au,n,r,e⟩:=I.aN p _ h
 exact⟨au,n,r,e,z⟩
theorem Inv.zR {pins:List (Addr×Obj)}{σ:St}{H:Hp}{s:Shared}{p:Addr}{xs ys:List V}{au its':List Value}{n n':Nat}{f:Obj->Obj}(I:Inv X pins σ H s)(h:H p=some (.lst xs))
  (ho:s.heap.get? p=some { cls := .type "list",data := .seq au.toArray n }) (hf:f { cls := .type "list",data := .seq au.toArray n } = { cls := .type "list",data := .seq its'.toArray n' }) (r:Vals ys its') (hz:ys.length<=sizeLine) (t:Nat) :
  Inv X pins σ (upd H p (.lst ys)) { s with heap:=s.heap.update p f,toks:=t }:=by
 have e:(s.heap.update p f).get? p=some { cls := .type "list",data := .seq its'.toArray n' }:=by
  rw[Us f ho (by rw[hf]<;>rfl),hf]
 refine I.write (x:=p) (e:=p) (by rw[h];trivial) (.inl rfl) (fun b u hb q=>(Uj _ _ (Ne.symm hb)).trans q) ⟨_,e⟩ ?_
 exact⟨hz,its',n',r,e⟩
noncomputable def Co:V->V->V->Hp->(Hp->Prop)->Prop:=fun o i v H Q=>pO fun p xs k j=>o = .ref p/\i = .int k/\H p=some (.lst xs)/\sf xs.length k=some j/\Q (upd H p (.lst (xs.set j v)))
theorem set_list:CC X Co:=by
 intro pins s σ H o i v ov iv u Q I ro ri rv h
 obtain⟨p,xs,k,j,rfl,rfl,hp,hj,q⟩:=h
 cases ro
 obtain⟨t,rfl⟩:=ri
 obtain⟨au,n,r,ho,hz⟩:=I.lst hp
 obtain⟨h1,h2,h3,h4⟩:=kQ hj
 have hl:=r.length
 have hn:=gX
 have I':Inv X pins σ (upd H p (.lst (xs.set j v))) { s with heap:=s.heap.update p (Obj.mapSeq (·.setIfInBounds j u)) }:=
  I.zR hp ho (oX au n j u) (r.set rv j) (by rw[List.length_set];exact hz) s.toks
 by_cases h0:0<=k
 ·have hk:k.toNat=j:=by
   rw[seqIndex_of h0 h4] at h1
   exact Option.some.inj h1
  exact PySem.W.ki_setAt ho h0 (by omega) (by rw[Jl,<-hl];exact h4) (by rw[hk];exact⟨_,I',q⟩)
 ·have hk:(k+(au.toArray.size:Int)).toNat=j:=by
   rw[seqIndex_neg (by omega) h3] at h1
   rw[Jl,<-hl]
   exact Option.some.inj h1
  exact PySem.W.ki_setBack ho (by omega) (by rw[Jl,<-hl];exact h3) (by omega) (by rw[hk];exact⟨_,I',q⟩)
theorem kR (lo hi:Option Int)(n:Nat):(sliceBounds lo hi none n).1=((HT.mP n 0 lo:Nat):Int)/\(sliceBounds lo hi none n).2.1=((HT.mP n n hi:Nat):Int)/\(sliceBounds lo hi none n).2.2=1:=by
 refine⟨?_,?_,rfl⟩
 ·cases lo with
  | none=>simp[sliceBounds,HT.mP]
  | some i=>
   simp only[sliceBounds,HT.mP,Option.getD_none,show(1:Int)>0 by decide,if_true]
   by_cases h:i<0
   ·simp only[h,if_true]<;>omega
   ·simp only[h,if_false]<;>omega
 ·cases hi with
  | none=>simp[sliceBounds,HT.mP]
  | some i=>
   simp only[sliceBounds,HT.mP,Option.getD_none,show(1:Int)>0 by decide,if_true]
   by_cases h:i<0
   ·simp only[h,if_true]<;>omega
   ·simp only[h,if_false]<;>omega
theorem jR (au:List Value)(lo hi:Option Int):slicePick au.toArray lo hi none=((au.drop (HT.mP au.length 0 lo)).take (HT.mP au.length au.length hi-HT.mP au.length 0 lo)).toArray:=by
 obtain⟨h1,h2,h3⟩:=kR lo hi au.toArray.size
 unfold slicePick
 rw[h1,h2,h3]
 simp only[sliceRange_one,pick_run,Jl]<;>rfl
noncomputable def zd (K:Jd):V->Option Int->Option Int->Hp->VK->Prop:=fun x lo hi H Q=>bV fun a xs=>x = .ref a/\aB K H a xs/\∀p,H p=none->Q (.ref p) (upd H p (.lst (nN xs lo hi)))
theorem wD:u5 X (zd X.K):=by
 intro pins s σ H x v vl vu lo hi sl Q I rx hs pl pu h
 obtain⟨a,xs,rfl,hx,q⟩:=h
 cases rx
 obtain⟨au,r,ht,hz⟩:=I.list hx
 have hlen:=r.length
 refine⟨"list",_,slot_list_getitem.lookup,ht.isList.typeIs,?_⟩
 refine wpAny_getItem_list_slice ht.isList hs pl pu .none (by simp) ?_ (by rw[Jl]<;>omega)
 rw[jR,<-hlen]
 refine⟨.ref s.heap.objs.size,_,I.laid (t':=s.toks) (o := .lst (nN xs lo hi)) (fun b ob q=>Jc _ q) (Je _) ?_,rfl,q _ (I.aN.fresh (Je _))⟩
 exact⟨Jq (ni xs lo hi) hz,_,0,(r.drop (HT.mP xs.length 0 lo)).take (HT.mP xs.length xs.length hi-HT.mP xs.length 0 lo),Js _ rfl⟩
noncomputable def iy:V->Bool
 | .non=>true
 | .bl _=>true
 | .int _=>true
 | .str _=>true
 | _=>false
noncomputable def xH:V->V->Bool
 | .non,.non=>true
 | .bl a,.bl b=>a==b
 | .bl a,.int b=>(if a then 1 else 0)==b
 | .int a,.bl b=>a==(if b then 1 else 0)
 | .int a,.int b=>a==b
 | .str a,.str b=>a==b
 | _,_=>false
theorem zJ {A:Around}{s:Shared}{y x:V}{u v:Value}(ry:RelV y u)(rx:RelV x v)(fy:iy y=true)(fx:iy x=true):SeqAt.EqAt A s u v (xH y x):=by
 cases y with
 | non=>
  cases ry
  cases x with
  | non=>cases rx;exact SeqAt.EqAt.same _
  | bl b=>cases rx;exact SeqAt.EqAt.none_bool b
  | int b=>obtain⟨t,rfl⟩:=rx;exact SeqAt.EqAt.none_int b t
  | str b=>obtain⟨t,rfl⟩:=rx;exact SeqAt.EqAt.none_str b t
  | _=>exact absurd (show false=true from fx) Jk
 | bl a=>
  cases ry
  cases x with
  | non=>cases rx;exact SeqAt.EqAt.bool_none a
  | bl b=>cases rx;exact SeqAt.EqAt.bool_bool a b
  | int b=>obtain⟨t,rfl⟩:=rx;exact SeqAt.EqAt.bool_int a b t
  | str b=>obtain⟨t,rfl⟩:=rx;exact SeqAt.EqAt.bool_str a b t
  | _=>exact absurd (show false=true from fx) Jk
 | int a=>
  obtain⟨t',rfl⟩:=ry
  cases x with
  | non=>cases rx;exact SeqAt.EqAt.int_none a t'
  | bl b=>cases rx;exact SeqAt.EqAt.int_bool a t' b
  | int b=>obtain⟨t,rfl⟩:=rx;exact SeqAt.EqAt.int_int a t' b t
  | str b=>obtain⟨t,rfl⟩:=rx;exact SeqAt.EqAt.int_str a t' b t
  | _=>exact absurd (show false=true from fx) Jk
 | str a=>
  obtain⟨t',rfl⟩:=ry
  cases x with
  | non=>cases rx;exact SeqAt.EqAt.str_none a t'
  | bl b=>cases rx;exact SeqAt.EqAt.str_bool a t' b
  | int b=>obtain⟨t,rfl⟩:=rx;exact SeqAt.EqAt.str_int a t' b t
  | str b=>obtain⟨t,rfl⟩:=rx;exact SeqAt.EqAt.str_str a t' b t
  | _=>exact absurd (show false=true from fx) Jk
 | _=>exact absurd (show false=true from fy) Jk
noncomputable def wY (x:V)(u:Value):Bool:=match u with
 | .none=>xH .non x
 | .bool b=>xH (.bl b) x
 | .int i _=>xH (.int i) x
 | .str z _=>xH (.str z) x
 | _=>false
theorem sE {x y:V}{u:Value}(r:RelV y u)(f:iy y=true):wY x u=xH y x:=by
 cases y with
 | non=>cases r;rfl
 | bl b=>cases r;rfl
 | int i=>obtain⟨t,rfl⟩:=r;rfl
 | str z=>obtain⟨t,rfl⟩:=r;rfl
 | _=>exact absurd (show false=true from f) Jk
theorem lj {x:V}:∀{xs:List V} {us:List Value},Vals xs us->xs.all iy=true->us.any (wY x)=xs.any fun y=>xH y x
 | _,_,.nil,_=>rfl
 | y::xs,u::us,.cons r t,f=>by
  rw[List.all_cons,Ye] at f
  rw[List.any_cons,List.any_cons,sE r f.1,lj t f.2]
theorem jh {A:Around}{s:Shared}{x:V}{v:Value}(rx:RelV x v)(fx:iy x=true):∀{xs:List V} {us:List Value},Vals xs us->xs.all iy=true->∀u∈us,SeqAt.EqAt A s u v (wY x u)
 | _,_,.nil,_=>fun u hu=>by cases hu
 | y::xs,u::us,.cons r t,f=>fun u' hu=>by
  rw[List.all_cons,Ye] at f
  rcases Ug.mp hu with rfl|hu
  ·rw[sE r f.1];exact zJ r rx f.1 fx
  ·exact jh rx fx t f.2 u' hu
noncomputable def HX (x:V)(xs:List V):Bool:=xs.any fun y=>xH y x
noncomputable def GU (K:Jd)(neg:Bool):R2:=fun x y H Q=>bV fun p xs=>y = .ref p/\(aB K H p xs∨iC K H p xs)/\iy x=true/\xs.all iy=true/\Q (.bl (if neg then !HX x xs else HX x xs)) H
theorem rL:dC X (compareOp .In) (GU X.K false):=by
 intro pins s σ H x y v u Q I rx ry h
 obtain⟨p,xs,rfl,hq,fx,fs,q⟩:=h
 cases ry
 rcases hq with hq|hq
 ·obtain⟨au,r,pl,hz⟩:=I.list hq
  refine SeqAt.in_listAt (wY x) pl.isList (fun w hw=>jh rx fx r fs w (by simpa using hw)) ⟨.bl _,H,I,rfl,?_⟩
  rw[show au.toArray.any (wY x)=au.any (wY x) by simp,lj r fs]
  exact q
 ·obtain⟨au,r,pl,hz⟩:=I.tuple hq
  refine SeqAt.in_tupleAt (wY x) pl (fun w hw=>jh rx fx r fs w (by simpa using hw)) ⟨.bl _,H,I,rfl,?_⟩
  rw[show au.toArray.any (wY x)=au.any (wY x) by simp,lj r fs]
  exact q
theorem bN.or {f:Value}{r r':List V->Hp->VK->Prop}(h:bN X f r)(h':bN X f r'):bN X f (fun xs H Q=>r xs H Q∨r' xs H Q):=by
 intro pins s σ H xs us Q I rs q
 rcases q with q|q
 ·exact h s σ H xs us Q I rs q
 ·exact h' s σ H xs us Q I rs q
theorem lE:bN X (.type "list") (fun xs H Q=>∃p ys,xs=[.ref p]/\(aB X.K H p ys∨iC X.K H p ys)/\∀l,H l=none->Q (.ref l) (upd H l (.lst ys))):=by
 intro pins s σ H xs us Q I r h
 obtain⟨p,ys,rfl,hq,q⟩:=h
 obtain⟨u,rfl,rx⟩:=vals1 r
 cases rx
 have fin:∀(au:List Value),Vals ys au->ys.length<=sizeLine->∀(h':Heap) (c':Nat),(∀b o',s.heap.get? b=some o'->h'.get? b=some o') ->
   h'.get? s.heap.objs.size=some { cls := .type "list",dict:=none,data := .seq au.toArray c',slots := #[] } -> EP X pins σ Q (.ref s.heap.objs.size) { s with heap:=h' }:=fun au r' hz h' c' kp e=>
  ⟨.ref s.heap.objs.size,_,I.laid (t':=s.toks) kp (Je _) (show ba X.prog X.w _ h' _ (.lst ys) from⟨hz,au,c',r',e⟩),rfl,q _ (I.aN.fresh (Je _))⟩
 rcases hq with hq|hq
 ·obtain⟨au,r',pl,hz⟩:=I.list hq
  have hlen:=r'.length
  obtain⟨o,ho,hc,n,hd⟩:=pl.isList
  exact call_list_seq p (.inl rfl) ho hc hd (fun h' c' kp e=>fin au r' hz h' c' kp e) (by simp only[Jl]<;>omega)
 ·obtain⟨au,r',pl,hz⟩:=I.tuple hq
  have hlen:=r'.length
  obtain⟨o,ho,hc,n,hd⟩:=pl
  exact call_list_seq p (.inr rfl) ho hc hd (fun h' c' kp e=>fin au r' hz h' c' kp e) (by simp only[Jl]<;>omega)
noncomputable def FV (K:Jd)(T:String)(x:V)(H:Hp):Prop:=match x with
 | .str _=>T = "str"
 | .int _=>T = "int"
 | .ref p=>(T = "list" /\ ∃xs,aB K H p xs)∨(T = "tuple" /\ ∃o,K.lookup p=some o/\o.cls = .type "tuple" /\ o.dict=none) ∨
   (T = "dict" /\ ((∃kvs,H p=some (.dK kvs))∨∃kvs,H p=some (.dT kvs)))∨(T = "set" /\ bV fun S n=>H p=some (.set S n))
 | _=>False
theorem tG {pins:List (Addr×Obj)}{σ:St}{H:Hp}{s:Shared}{T:String}{x:V}{v:Value}(I:Inv X pins σ H s)(r:RelV x v)(ty:FV X.K T x H):
  s.TypeIs v T/\∀a,v = .ref a->∃ob,s.heap.get? a=some ob/\ob.dict=none:=by
 cases x with
 | str z=>
  obtain⟨t,rfl⟩:=r
  cases (show T = "str" from ty)
  exact⟨typeIs_str s z t,fun _ e=>nomatch e⟩
 | int i=>
  obtain⟨t,rfl⟩:=r
  cases (show T = "int" from ty)
  exact⟨typeIs_int s i t,fun _ e=>nomatch e⟩
 | ref p=>
  cases r
  rcases ty with ⟨rfl,xs,hq⟩|⟨rfl,o,hk,hc,hd⟩|⟨rfl,hk⟩|⟨rfl,S,n,hk⟩
  ·obtain⟨au,_,pl,_⟩:=I.list hq
   refine⟨pl.isList.typeIs,fun a e =>?_⟩
   cases e
   obtain⟨o,n,e,c,hd,_⟩:=pl
   exact⟨o,e,hd⟩
  ·refine⟨⟨o,I.lq p o hk,hc⟩,fun a e =>?_⟩
   cases e
   exact⟨o,I.lq _ o hk,hd⟩
  ·have z:∃o,s.heap.get? p=some o/\o.ExactDict:=by
    rcases hk with ⟨kvs,hk⟩|⟨kvs,hk⟩
    ·obtain⟨_,_,_,_,o,_,_,e,ex,_⟩:=I.aN p _ hk
     exact⟨o,e,ex⟩
    ·obtain⟨_,_,_,_,o,_,_,e,ex,_⟩:=I.aN p _ hk
     exact⟨o,e,ex⟩
   obtain⟨o,e,ex⟩:=z
   refine⟨⟨o,e,ex.1⟩,fun a e2 =>?_⟩
   cases e2
   exact⟨o,e,ex.2.1⟩
  ·obtain⟨o,_,_,_,e,ex,_⟩:=I.aN p _ hk
   refine⟨⟨o,e,ex.1⟩,fun a e2 =>?_⟩
   cases e2
   exact⟨o,e,ex.2.1⟩
 | _=>exact False.elim ty
noncomputable def BG (K:Jd)(T:String)(r:V->List V->Hp->VK->Prop)(to:TE):TE:=fun σ H Q=>to σ H fun x H1=>FV K T x H1/\r x [] H1 Q
noncomputable def HS (K:Jd)(T:String)(r:V->List V->Hp->VK->Prop)(to:TE)(t:TA):TE:=fun σ H Q=>to σ H fun x H1=>FV K T x H1/\t σ H1 fun xs H2=>r x xs H2 Q
variable {o e:Expr}{es:List Expr}{to:TE}{t:TA}{name:Str}{apos eS:Pos}{T id:String}{r:V->List V->Hp->VK->Prop}
theorem zN (pa:PlainAttrs T)(slot:Slot T name id)(yq:typeOf (.builtin id)=pure (.type "method_descriptor"))(hm:yh X id r)(ho:PE X o to)
  (i8:attributeBase o name X.env (eval o X.env)=eval o X.env:=by rfl) (jD:(apos.endLine==eS.line)=true:=by rfl):PE X (.Call (.Attribute o name apos) [] [] eS) (BG X.K T r to):=by
 intro pins s σ H Q I h
 refine wpAny_Call_method0_late i8 jD (aM (ho s σ H _ I h) fun v s1 hz_ =>?_)
 refine ae.el hz_ _ ?_
 clear hz_
 rintro x H1 I1 r1 ⟨ty,q1⟩
 obtain⟨h1,h2⟩:=tG I1 r1 ty
 exact⟨T,id,pa,slot,yq,h1,h2,Calls.callWith_builtin rfl (PySem.evalArgs_none (hm s1 σ H1 x [] v [] Q I1 r1 .nil q1))⟩
theorem AF (pa:PlainAttrs T)(slot:Slot T name id)(yq:typeOf (.builtin id)=pure (.type "method_descriptor"))(hm:yh X id r)(ho:PE X o to)(ha:PA X (e::es) t)
  (i8:attributeBase o name X.env (eval o X.env)=eval o X.env:=by rfl)
  (yk:((backTo eS (starEach (e::es) X.env)).all (fun x => !x.1)&&(backToKw eS (keywordEach [] X.env)).all (fun x=>x.1.isSome)
   && decide ((e::es).length+([]:List Keyword).length+(if ([]:List Keyword).isEmpty then 0 else 1)<30))=true:=by rfl)
  (jD:(apos.endLine==eS.line)=true:=by rfl) (hs:starEach (e::es) X.env=(false,eval e X.env)::starEach es X.env:=by rfl) (ox:(backTo eS (starEach es X.env)).any (·.1)=false:=by rfl) :
  PE X (.Call (.Attribute o name apos) (e::es) [] eS) (HS X.K T r to t):=by
 intro pins s σ H Q I h
 refine wpAny_Call_method_late i8 yk jD rfl (aM (ho s σ H _ I h) fun v s1 hz_ =>?_)
 refine ae.el hz_ _ ?_
 clear hz_
 rintro x H1 I1 r1 ⟨ty,q1⟩
 obtain⟨h1,h2⟩:=tG I1 r1 ty
 refine⟨T,id,pa,slot,yq,h1,h2,?_⟩
 have hA:=ha (pos:=eS) s1 σ H1 _ I1 q1
 rw[hs] at hA ⊢
 refine Calls.callWith_builtin (by show(false||(backTo eS (starEach es X.env)).any (·.1))=false;rw[ox]<;>rfl) (Calls.evalArgs_plain ?_)
 exact aM hA fun us s2 hz_=>ae.el hz_ _ fun vs H2 I2 r2 q2=>hm s2 σ H2 x vs v us Q I2 r1 r2 q2
end
noncomputable def vf (X:Cx)(id:String)(r:V->List V->Hp->VK->Prop):Prop:=
 ∀ ⦃pins:List (Addr×Obj)⦄ (s:Shared) (σ:St) (H:Hp) (x:V) (xs:List V) (v:Value) (us:List Value) (Q:VK),Inv X pins σ H s->RelV x v->Vals xs us->r x xs H Q ->
  wpAny (model X.prog X.w) X.A (call (.builtin id) (v::us)) (EP X pins σ Q) X.xe s
theorem Vals.hd {x:V}{xs:List V}{us:List Value}(h:Vals (x::xs) us):∃u r,us=u::r/\RelV x u/\Vals xs r:=by
 cases h with|cons a b=>exact⟨_,_,rfl,a,b⟩
theorem Vals.one {x:V}{us:List Value}(h:Vals [x] us):∃u,us=[u]/\RelV x u:=by
 obtain⟨u,r,rfl,a,h⟩:=h.hd
 cases h
 exact⟨_,rfl,a⟩
theorem Vals.zero:∀{us:List Value},Vals [] us->us=[]
 | _,.nil=>rfl
theorem Vals.dropLast {xs:List V}{us:List Value}(h:Vals xs us):Vals xs.dropLast us.dropLast:=by
 induction h with
 | nil=>exact .nil
 | cons r t ih=>
  cases t with
  | nil=>exact .nil
  | cons q t'=>exact .cons r ih
theorem Vals.eraseIdx:∀{xs:List V} {us:List Value} (i:Nat),Vals xs us->Vals (xs.eraseIdx i) (us.eraseIdx i)
 | _,_,_,.nil =>.nil
 | _,_,0,.cons _ t=>t
 | _,_,i+1,.cons r t =>.cons r (Vals.eraseIdx i t)
theorem Vals.rep {xs:List V}{us:List Value}(h:Vals xs us):∀k:Nat,Vals (Jt k xs).flatten (Jt k us).flatten
 | 0 =>.nil
 | k+1=>by
  rw[U8,U8,List.flatten_cons,List.flatten_cons]
  exact Vals.append h (Vals.rep h k)
theorem nZ {α:Type}(l:List α):l.eraseIdx (l.length-1)=l.dropLast:=by
 induction l with
 | nil=>rfl
 | cons a r ih=>
  cases r with
  | nil=>rfl
  | cons b r=>
   have e:(a::b::r).length-1=((b::r).length-1)+1:=by
    have h1:(a::b::r).length=r.length+2:=rfl
    have h2:(b::r).length=r.length+1:=rfl
    omega
   rw[e,List.eraseIdx_cons_succ,ih]
   all_goals rfl
theorem jX {α:Type}:∀(l:List α) (i:Nat),(l.eraseIdx i).length<=l.length
 | [],_=>Je _
 | _::_,0=>Yt _
 | _::r,i+1=>Nat.succ_le_succ (jX r i)
theorem foldl_rep (au:List Value):∀(k:Nat) (acc:List Value),
  List.foldl (fun x1 x2=>x1++x2) acc.toArray (Jt k au.toArray)=(acc++(Jt k au).flatten).toArray
 | 0,acc=>by simp
 | k+1,acc=>by
  have e:acc.toArray++au.toArray=(acc++au).toArray:=by simp
  have e2:(acc++au)++(Jt k au).flatten=acc++(Jt (k+1) au).flatten:=by
   rw[U8,List.flatten_cons,Uo]
  rw[<-e2,<-foldl_rep au k (acc++au),<-e,U8,List.foldl_cons]
section
variable {X:Cx}{pins:List (Addr×Obj)}{σ:St}{H:Hp}{s:Shared}{l b:Addr}{xs ys zs:List V}
theorem Inv.uw {au its':List Value}{n:Nat}{f:Array Value->Array Value}{t':Nat}(I:Inv X pins σ H s)(hH:H l=some (.lst xs))
  (e:s.heap.get? l=some { cls := .type "list",data := .seq au.toArray n }) (hf:f au.toArray=its'.toArray) (hv:Vals ys its') (hz:ys.length<=sizeLine) :
  Inv X pins σ (upd H l (.lst ys)) { s with heap:=s.heap.update l (Obj.mapSeq f),toks:=t' }:=by
 have q:=PySem.IsL.update e f
 rw[hf] at q
 refine I.write (x:=l) (e:=l) (by rw[hH];exact trivial) (.inl rfl) (fun b' u hb hu=>(Uj s.heap (Obj.mapSeq f) (Ne.symm hb)).trans hu) ⟨_,q⟩ ?_
 exact⟨hz,its',_,hv,q⟩
theorem Inv.B8 {au:List Value}{t':Nat}(I:Inv X pins σ H s)(hv:Vals ys au)(hz:ys.length<=sizeLine):
  Inv X pins σ (upd H s.heap.objs.size (.lst ys)) { s with heap:=s.heap.push { cls := .type "list",data := .seq au.toArray },toks:=t' }:=
 I.laid (fun _ _ q=>Jc _ q) (Je _) ⟨hz,au,0,hv,Js _ rfl⟩
theorem Inv.fresh (I:Inv X pins σ H s):H s.heap.objs.size=none:=I.aN.fresh (Je _)
theorem Inv.lZ (I:Inv X pins σ H s)(hH:H l=some (.lst xs)):xs.length<=sizeLine/\∃(au:List Value) (n:Nat),Vals xs au/\xs.length=au.length/\s.heap.get? l=some { cls := .type "list",data := .seq au.toArray n }:=by
 obtain⟨z,au,n,r,e⟩:=I.aN l _ hH
 exact⟨z,au,n,r,r.length,e⟩
theorem nM {n:Nat}(h:n<=sizeLine):Builtin.List.listTooLong n=false:=by
 unfold Builtin.List.listTooLong
 exact decide_eq_false (by omega)
end
section
variable {X:Cx}
noncomputable def wZ:V->List V->Hp->VK->Prop:=fun x vs H Q=>dR fun l xs y=>x = .ref l/\vs=[y]/\H l=some (.lst xs)/\xs.length<sizeLine/\Q .non (upd H l (.lst (xs++[y])))
theorem rg:vf X "list.append" wZ:=by
 intro pins s σ H x vs v us Q I rx rv h
 obtain⟨l,xs,y,rfl,rfl,hH,hz,q⟩:=h
 cases rx
 obtain⟨u,rfl,ru⟩:=rv.one
 obtain⟨z,au,n,r,hl,e⟩:=I.lZ hH
 refine call_meets F.slot_list_append ⟨_,e,rfl⟩ F.entry_list_append (F.args_list_append_2 _ _) (PySem.list_append l au.toArray n u (by rw[Jl];omega)) ⟨e,?_⟩
 refine⟨.non,_,I.uw (its':=au++[u]) hH e (by simp) (r.append (.cons ru .nil)) ?_,rfl,q⟩
 rw[Jg,List.length_singleton]
 omega
noncomputable def xh:V->List V->Hp->VK->Prop:=fun x vs H Q=>pO fun l b xs zs=>x = .ref l/\vs=[.ref b]/\H l=some (.lst xs)/\H b=some (.lst zs)/\xs.length+zs.length<=sizeLine/\Q .non (upd H l (.lst (xs++zs)))
theorem rH:vf X "list.extend" xh:=by
 intro pins s σ H x vs v us Q I rx rv h
 obtain⟨l,b,xs,zs,rfl,rfl,hH,hB,hz,q⟩:=h
 cases rx
 obtain⟨u,rfl,ru⟩:=rv.one
 cases ru
 obtain⟨z,au,n,r,hl,e⟩:=I.lZ hH
 obtain⟨z2,its2,n2,r2,zV,e2⟩:=I.lZ hB
 have hsz:au.toArray.size+its2.toArray.size<=sizeLine:=by rw[Jl,Jl];omega
 have uZ:¬(!au.toArray.isEmpty&&Builtin.List.listTooLong (au.toArray.size+its2.toArray.size))=true:=by
  rw[nM hsz,Bool.and_false]
  exact Jk
 refine call_meets F.slot_list_extend ⟨_,e,rfl⟩ F.entry_list_extend (F.args_list_extend_2 _ _)
  (AutoSeq1.list_extend_list_list_0 l au.toArray n b its2.toArray n2 uZ (by rw[Jl];omega) (by omega)) ⟨e,e2,?_⟩
 refine⟨.non,_,I.uw (its':=au++its2) hH e (by simp) (r.append r2) ?_,rfl,q⟩
 rw[Jg]
 omega
noncomputable def Gq:V->List V->Hp->VK->Prop:=fun x vs H Q=>dR fun l xs y=>x = .ref l/\vs=[]/\H l=some (.lst xs)/\xs[xs.length-1]? = some y/\Q y (upd H l (.lst xs.dropLast))
theorem yP:vf X "list.pop" Gq:=by
 intro pins s σ H x vs v us Q I rx rv h
 obtain⟨l,xs,y,rfl,rfl,hH,hy,q⟩:=h
 cases rx
 have Cp:=rv.zero
 subst Cp
 obtain⟨z,au,n,r,hl,e⟩:=I.lZ hH
 obtain⟨u,hu,ru⟩:=r.get hy
 have Fq:au.toArray[au.toArray.size-1]? = some u:=by
  show au.toArray[au.length-1]? = some u
  rw[<-Ub,<-hl]
  exact hu
 refine call_meets F.slot_list_pop ⟨_,e,rfl⟩ F.entry_list_pop (F.args_list_pop_1 _) (MeetsSeq.list_pop_last l au.toArray n u Fq (by rw[Jl];omega)) ⟨e,?_⟩
 refine⟨y,_,I.uw (its':=au.dropLast) hH e ?_ r.dropLast ?_,ru,q⟩
 ·show au.toArray.eraseIdxIfInBounds (au.toArray.size-1)=au.dropLast.toArray
  rw[Jl,List.eraseIdxIfInBounds_toArray,nZ]
 ·rw[List.length_dropLast]
  omega
noncomputable def yH:V->List V->Hp->VK->Prop:=fun x vs H Q=>xU fun l xs i k y=>x = .ref l/\vs=[.int i]/\H l=some (.lst xs) /\ -(2^63)<=i/\i<2^63/\seqIndex? i xs.length=some k/\xs[k]? = some y/\Q y (upd H l (.lst (xs.eraseIdx k)))
theorem uo:vf X "list.pop" yH:=by
 intro pins s σ H x vs v us Q I rx rv h
 obtain⟨l,xs,i,k,y,rfl,rfl,hH,h1,h2,hk,hy,q⟩:=h
 cases rx
 obtain⟨u,rfl,ru⟩:=rv.one
 obtain⟨t,rfl⟩:=ru
 obtain⟨z,au,n,r,hl,e⟩:=I.lZ hH
 obtain⟨w,hw,qp⟩:=r.get hy
 refine call_meets F.slot_list_pop ⟨_,e,rfl⟩ F.entry_list_pop (F.args_list_pop_2 _ _)
  (MeetsSeq.list_pop_at l au.toArray n i t k w (fitsIndex_both h1 h2) (by rw[Jl,<-hl];exact hk) (by rw[<-Ub];exact hw) (by rw[Jl];omega)) ⟨e,?_⟩
 refine⟨y,_,I.uw (its':=au.eraseIdx k) hH e ?_ (r.eraseIdx k) ?_,qp,q⟩
 ·show au.toArray.eraseIdxIfInBounds k=(au.eraseIdx k).toArray
  rw[List.eraseIdxIfInBounds_toArray]
 ·have:=jX xs k
  omega
noncomputable def Cu:R2:=fun x y H Q=>pO fun l b xs zs=>x = .ref l/\y = .ref b/\H l=some (.lst xs)/\H b=some (.lst zs)/\xs.length+zs.length<=sizeLine/\∀p,H p=none->Q (.ref p) (upd H p (.lst (xs++zs)))
theorem yM:dC X (binaryOp .Add) Cu:=by
 intro pins s σ H x y v u Q I rx ry h
 obtain⟨l,b,xs,zs,rfl,rfl,hH,hB,hz,q⟩:=h
 cases rx
 cases ry
 obtain⟨z,au,n,r,hl,e⟩:=I.lZ hH
 obtain⟨z2,its2,n2,r2,zV,e2⟩:=I.lZ hB
 refine PySem.P.add_list e e2 ?_ (by rw[Jl,Jl];omega)
 have ea:au.toArray++its2.toArray=(au++its2).toArray:=by simp
 rw[ea]
 exact⟨.ref _,_,I.B8 (t':=s.toks) (r.append r2) (by rw[Jg];omega),rfl,q _ I.fresh⟩
noncomputable def AX:R2:=fun x y H Q=>dR fun l k xs=>x = .ref l/\y = .int k/\H l=some (.lst xs) /\ -(2^63)<=k/\k<2^63/\xs.length*k.toNat<=sizeLine /\
 ∀p,H p=none->Q (.ref p) (upd H p (.lst (Jt k.toNat xs).flatten))
theorem len_rep {α:Type}(xs:List α)(k:Nat):(Jt k xs).flatten.length=k*xs.length:=by
 induction k with
 | zero=>simp
 | succ k ih=>rw[U8,List.flatten_cons,Jg,ih,Nat.succ_mul,Nat.add_comm]
theorem y9:dC X (binaryOp .Mult) AX:=by
 intro pins s σ H x y v u Q I rx ry h
 obtain⟨l,k,xs,rfl,rfl,hH,h1,h2,hz,q⟩:=h
 cases rx
 obtain⟨t,rfl⟩:=ry
 obtain⟨z,au,n,r,hl,e⟩:=I.lZ hH
 have hlen:au.toArray.size*k.toNat<=sizeLine:=by rw[Jl,<-hl];exact hz
 have Ef:¬au.toArray.size*k.toNat>(2^63-1) / 8:=by
  have:(sizeLine:Nat)<=(2^63-1) / 8:=by decide
  omega
 have GD:¬(!Builtin.List.listFitsIndex k)=true:=by
  rw[fitsIndex_both h1 h2]
  exact Jk
 have uZ:¬Builtin.List.listTooLong (au.toArray.size*k.toNat)=true:=by
  rw[nM hlen]
  exact Jk
 have oH:List.foldl (fun x1 x2=>x1++x2) #[] (Jt (if au.toArray.isEmpty=true then 0 else k.toNat) au.toArray)=(Jt k.toNat au).flatten.toArray:=by
  have f0:∀m:Nat,List.foldl (fun x1 x2=>x1++x2) #[] (Jt m au.toArray)=(Jt m au).flatten.toArray:=fun m=>by
   have:=foldl_rep au m []
   rw[List.nil_append] at this
   exact this
  rw[f0]
  cases au with
  | nil=>simp
  | cons a r'=>rw[if_neg (by simp)]
 refine wpAny_binaryOp_repeat_ref (T := "list") (U := "int") (by decide) ⟨_,e,rfl⟩ (fun s'=>typeIs_int s' k t) noFill_list_mul F.fills_int_mul F.slot_int_rmul repeat_list F.slot_int_index.lookup
  (call_meets F.slot_int_rmul (typeIs_int s k t) F.entry_int_rmul (F.args_int_rmul_2 _ _) (int___rmul___int_list k t l au.toArray n)
   ⟨e,rfl,⟨_,e,rfl⟩,call_meets F.slot_list_mul ⟨_,e,rfl⟩ F.entry_list_mul (F.args_list_mul_2 _ _) (AutoListH.list___mul___list_int_3 l au.toArray n k t GD Ef uZ) ⟨e,?_⟩⟩)
 rw[oH]
 exact⟨.ref _,_,I.B8 (t':=s.toks) (r.rep k.toNat) (by rw[len_rep,Nat.mul_comm];exact hz),rfl,q _ I.fresh⟩
end
section
variable {prog:Program}{w:World}{A:Around}{E:Value->Shared->Prop}{s:Shared}
set_option maxRecDepth 100000 in
end
end L2
namespace Att
open PySem PySem.W PySem.Calls PyProof.Rows
theorem iG {P:Params}{h:Heap}:∀(ns:List Int) (vs:List Value),WellAll P h vs (ns.map WData.int)->IntsAre vs ns:=by
 intro ns
 induction ns with
 | nil=>
  intro vs w
  rw[List.map_nil] at w
  cases w
  exact .nil
 | cons n ns ih=>
  intro vs w
  rw[Ui] at w
  cases w with
  | cons a b=>
   cases a
   exact .cons _ _ (ih _ b)
theorem rq {l:OpenLaw}{n:Nat}(hn:l.most=some n){P:Params}{h:Heap}{args:List WData}{vals:List Value}
  (vO:l.row.toRowW.claim.pre args=true) (DV:WellAll P h vals args) :
  ∃a vs ns,vals=[Value.ref a]/\args=[WData.list (ns.map WData.int)]/\h.get? a=some { cls := .type "list",data := .seq vs.toArray } /\ IntsAre vs ns/\ns.length<=n:=by
 have KD:WShape.hasAll [] args [.list .int]=true:=(pre_splitW vO).1
 have hc:l.pre.holds [] { args:=args } = true:=(pre_splitW vO).2
 obtain⟨d,r,rfl,h1,h2⟩:=hasAllW_cons KD
 obtain rfl:=hasAllW_nil h2
 obtain⟨xs,rfl,h3⟩:=hasW_list h1
 obtain⟨ns,rfl⟩:=items_int h3
 have hlen:ns.length<=n:=by
  unfold OpenLaw.pre at hc
  have h4:(WTm.not (.lt (.lit (.int (n:Int))) (.len (.arg 0)))).holds [] { args:=[.list (ns.map .int)] } = true:=by
   have h4:=(holds_andW hc).1
   rw[hn] at h4
   exact h4
  have h5:=condW_of h4 (w_not (w_lt w_lit (w_len_list (w_arg rfl))))
  rw[Ja] at h5
  refine Yv fun q =>?_
  have q':(n:Int)<((ns.length:Nat):Int):=by omega
  first
   | (rw[decide_eq_true q'] at h5;exact absurd h5 (by decide))
   | (simp at h5;omega)
 cases DV with
 | cons w1 w2=>
  cases w2
  cases w1 with
  | list ho cU=>exact⟨_,_,ns,rfl,rfl,ho,iG ns _ cU,hlen⟩
theorem rG (l:OpenLaw)(args:List WData):l.row.toRowW.claim.post args (.bool true) args=true:=
 postW_of (r:=l.row.toRowW) (X:=(true==true))
  (show WShape.has [] (.bool true) .bool=true by first|rfl|decide|simp[WShape.has,WShape.arms,WShape.armsAll])
  (show(WTm.eq .res (.lit (.bool true))).value [] { args:=args,res:=some (.bool true),after:=args } = some (.bool (true==true)) from w_eq_bool (w_res rfl) w_lit) rfl
theorem nH {l:OpenLaw}{n:Nat}{q:Program}{loose:List Str}{XP:(Str->Option Value)->Heap->Prop}{YP:World->Heap->Prop}{d:DefRec}
  (hn:l.most=some n) (Cw:d.params.defaults=[])
  (call:∀(w:World) (s₀ s₁:Shared) (mg mb:Str->Option Value) (fa:Addr) (o:Obj) (pm cd doc:Value) (a:Addr) (vs:List Value) (ns:List Int),
   Ground q loose [] XP w s₀ mg mb s₁.heap->YP w s₁.heap ->
   s₁.heap.get? fa=some o->o.data = .func (docDef d.name d.params d.body d.scope pm cd doc)->s₁.heap.CodeRec cd d.name->mg d.name=some (.ref fa) ->
   s₁.heap.get? a=some { cls := .type "list",data := .seq vs.toArray } -> IntsAre vs ns->ns.length<=n->s₁.gens = #[] ->
   codeAny (model l.prog w) callerA (.call (.ref fa) ⟨[.ref a],[]⟩) (fun r s'=>r = .ok (.ret (.bool true))/\OldK s₁.heap s'.heap/\s'.os=s₁.os/\AllBare s'.gens) s₁) :
  WalkO q loose XP YP l.row.toRowW d [] (fun f vs=>PySem.call f vs):=by
 intro w s₀ s₁ mg mb G Y fa o pm cd doc dV kV ho hd qL hD hmg hg args vals as vO hlay hrd DV uD
 obtain rfl:dV = .none:=Dflts.none hD Cw
 obtain rfl:kV = .none:=Dflts.noKw hD
 obtain⟨a,vs,ns,rfl,rfl,hobj,hints,hlen⟩:=rq hn vO DV
 refine enter_call (codeAny_mono (call w s₀ s₁ mg mb fa o pm cd doc a vs ns G Y ho (fd_plain hd) qL hmg hobj hints hlen hg) fun r s' hq =>?_)
 obtain⟨rfl,h2,h3,h4⟩:=hq
 exact⟨.inl ⟨.bool true,.bool true,[],rfl,fun _=>rfl,.bool true,rG l _,fun _=>⟨List.Pairwise.nil,fun _ hm=>(nomatch hm)⟩⟩,h2,h3,h4⟩
end Att
namespace L2
open PySem PySem.Spec PyProof.Rows
theorem qy {vs:List Value}{ns:List Int}(h:IntsAre vs ns):Vals (ns.map V.int) vs:=by
 induction h with
 | nil=>exact .nil
 | cons n t h ih=>exact .cons ⟨t,rfl⟩ ih
noncomputable def zU (H:Hp):Prop:=∀b,H b=none∨bV fun o xs=>H b=some (.frz o (.lst xs))
theorem tD {P:Program}{w:World}{K:Jd}{mg mb:Str->Option Value}{CX:rF}{k:Nat}{fa a:Addr}{fd:FuncData}{x:Str}{sp:Sp}{s₁:Shared}{vs:List Value}{ns:List Int}
  (KX:K.In s₁.heap) (oy:s₁.heap.Ns mainGlobals mg) (hb:s₁.heap.Ns builtinsNs mb) (KQ:∀x:Str,x ≠ "__name__" -> mb x=bootBuiltins x) (Gh:s₁.heap.NoLimit) (hg:s₁.gens = #[])
  (ha:s₁.heap.get? a=some { cls := .type "list",data := .seq vs.toArray }) (hi:IntsAre vs ns) (hl:ns.length<=sizeLine) (hr:du k callerA)
  (F:∀base:Heap,K.In base->base.Ns mainGlobals mg->cf P w K mg base CX k fa fd [x] sp) (Bs:∀(s:Shared) (u:Value),BindsTo s fd ⟨[u],[]⟩ [(x,u)])
  (qC:∀H:Hp,zU H->aB K H a (ns.map V.int)->sp [.ref a] H (fun v _=>v = .bl true) fun _ _ _=>False)
  (Gf:∀H e s',CX [] H s₁ (fun _ _ _=>False) e s'->False) :
  codeAny (model P w) callerA (.call (.ref fa) ⟨[.ref a],[]⟩) (fun r s'=>r = .ok (.ret (.bool true))/\OldK s₁.heap s'.heap/\s'.os=s₁.os/\AllBare s'.gens) s₁:=by
 have rv:=qy hi
 have Et:=hi.length
 have core:∀H:Hp,zU H->aB K H a (ns.map V.int)->d6 P w H s₁.heap->(∀b,H b≠none->b=a)->(H a≠none->K.lookup a=none) ->
   codeAny (model P w) callerA (.call (.ref fa) ⟨[.ref a],[]⟩) (fun r s'=>r = .ok (.ret (.bool true))/\OldK s₁.heap s'.heap/\s'.os=s₁.os/\AllBare s'.gens) s₁:=by
  intro H hO hS aN hA hK
  have pN:∀{b:Addr} {o:Obj},s₁.heap.get? b=some o->H b=none->(l6 s₁.heap H).get? b=some o:=fun e n=>ud e n
  have Cg:∀{b:Addr} {o:Obj} {es:Array DictEntry} {ep:Nat},s₁.heap.get? b=some o->o.data = .dict es ep->H b=none:=fun{b o es ep} e d=>by
   cases q:H b with
   | none=>rfl
   | some u=>
    have e':b=a:=hA b (by rw[q];simp)
    subst e'
    rw[ha] at e;cases e
    have d':Data.seq vs.toArray _=Data.dict es ep:=d
    cases d'
  have C7:∀{b:Addr} {m:Str->Option Value},s₁.heap.Ns b m->(l6 s₁.heap H).Ns b m:=fun{b m} ⟨o,es,ep,e,d,r⟩=>⟨o,es,ep,pN e (Cg e d),d,r⟩
  have HG:K.In (l6 s₁.heap H):=fun b o e=>pN (KX b o e) (by
   cases q:H b with
   | none=>rfl
   | some u=>
    have e':b=a:=hA b (by rw[q];simp)
    subst e'
    rw[hK (by rw[q];simp)] at e;cases e)
  have hM:Mod K mg (l6 s₁.heap H):=⟨HG,C7 oy,⟨mb,C7 hb,KQ⟩,let ⟨mc,h1,h2⟩:=Gh; ⟨mc,C7 h1,h2⟩⟩
  have e0:nW P w K mg (l6 s₁.heap H) callerA [] s₁ H:=⟨rfl,hM,fun b o e=>vq e,Yp (qT _ _),trivial,fun b hb=>absurd (show b∈([]:List Addr) from hb) (by simp),aN,.of_eq hg⟩
  refine codeAny_mono ((F _ HG (C7 oy)).run callerA [] s₁ H ⟨[.ref a],[]⟩ [.ref a] [.ref a] _ _ hr e0 (Bs s₁ (.ref a)) (.cons rfl .nil) (qC H hO hS)) fun r s' h =>?_
  cases r with
  | error e=>exact(Gf H e s' h).elim
  | ok fl=>
   cases fl with
   | next=>exact False.elim h
   | brk=>exact False.elim h
   | cont=>exact False.elim h
   | ret u=>
    obtain⟨v,H',os,bare,un,zM,r',q⟩:=h
    have q':v = .bl true:=q
    subst q'
    obtain rfl:u=Value.bool true:=r'
    refine⟨rfl,OldK.of_keep fun b o e =>?_,os,bare⟩
    cases q:H b with
    | none=>exact un.keep b o e q (by intro z;exact absurd (show b∈([]:List Addr) from z) (by simp)) (by simp)
    | some u=>
     rcases hO b with z|⟨ob,xs,z⟩
     ·rw[q] at z;cases z
     ·have z2:=un.dH b ob _ z
      obtain⟨e1,_⟩:=aN b _ z
      obtain⟨e2,_⟩:=zM b _ z2
      rw[e] at e1;cases e1
      exact e2
 cases hk:K.lookup a with
 | some o=>
  have e:=KX a o hk
  rw[ha] at e
  cases e
  refine core (fun _=>none) (fun _ =>.inl rfl) (.inr ⟨_,vs.toArray,_,hk,rfl,rfl,rfl,by rw[Jl,Et];exact hl,by simpa using rv⟩) (fun b u z=>by have z':(none:Option HO)=some u:=z;cases z') (fun b z=>absurd rfl z) fun z=>absurd rfl z
 | none=>
  refine core (fun b=>if b=a then some (.frz { cls := .type "list",data := .seq vs.toArray } (.lst (ns.map V.int))) else none) (fun b =>?_) (.inl (.inr ⟨{ cls := .type "list",data := .seq vs.toArray },if_pos rfl⟩)) (fun b u z =>?_) (fun b z =>?_) fun _=>hk
  ·by_cases hb:b=a
   ·exact .inr ⟨_,_,if_pos hb⟩
   ·exact .inl (if_neg hb)
  ·by_cases hb:b=a
   ·have z':=(if_pos hb).symm.trans z
    cases z'
    subst hb
    exact⟨ha,by rw[Ja];exact hl,vs,_,rv,ha⟩
   ·have z':=(if_neg hb).symm.trans z
    cases z'
  ·by_cases hb:b=a
   ·exact hb
   ·exact absurd (if_neg hb) z
theorem v8 {l:PySem.W.OpenLaw}{n k:Nat}{q:Program}{loose:List Str}{XP:(Str->Option Value)->Heap->Prop}{YP:World->Heap->Prop}{d:DefRec}{K:Params->Jd}{CX:World->rF}{sp:World->Sp}{x:Str}
  (hn:l.most=some n) (zD:n<=sizeLine) (Cw:d.params.defaults=[]) (hr:du k callerA)
  (hY:∀(w:World) (h:Heap),YP w h->(K w.params).In h)
  (F:∀(w:World) (mg:Str->Option Value) (fa:Addr) (h:Heap),(K w.params).In h->h.Ns mainGlobals mg->mg d.name=some (.ref fa) ->
   ∃fd:FuncData,(∀(s:Shared) (u:Value),BindsTo s fd ⟨[u],[]⟩ [(x,u)]) /\
    ∀base:Heap,(K w.params).In base->base.Ns mainGlobals mg->cf l.prog w (K w.params) mg base (CX w) k fa fd [x] (sp w))
  (qC:∀(w:World) (H:Hp) (a:Addr) (ns:List Int),ns.length<=n->zU H->aB (K w.params) H a (ns.map V.int)->sp w [.ref a] H (fun v _=>v = .bl true) fun _ _ _=>False)
  (Gf:∀(w:World) (H:Hp) (s:Shared) (e:Value) (s':Shared),CX w [] H s (fun _ _ _=>False) e s'->False) :
  PySem.W.WalkO q loose XP YP l.row.toRowW d [] (fun f vs=>PySem.call f vs):=by
 refine Att.nH hn Cw fun w s₀ s₁ mg mb fa o pm cd doc a vs ns G Y ho hd qL hmg hobj hints hlen hg =>?_
 have KX:=hY w _ Y
 obtain⟨fd,hb,hF⟩:=F w mg fa _ KX G.T.g hmg
 exact tD KX G.T.g G.T.b G.T.builtins G.T.nolimit hg hobj hints (Jq hlen zD) hr hF hb (fun H hO hS=>qC w H a ns hlen hO hS) fun H e s'=>Gf w H s₁ e s'
noncomputable def fG (s:Stmt):Arguments:=match s with
 | .FunctionDef _ a _ _ _ _ _ _ _ _=>a
 | _=>{ posonlyargs:=[],args:=[],vararg:=none,kwonlyargs:=[],kw_defaults:=[],kwarg:=none,defaults:=[] }
noncomputable def eI (s:Stmt):List Stmt:=match s with
 | .FunctionDef _ _ b _ _ _ _ _ _ _=>b
 | _=>[]
noncomputable def aF (s:Stmt):Scope:=match s with
 | .FunctionDef _ _ _ _ _ _ sc _ _ _=>sc
 | _=>{ kind := .function,names:=[],isGenerator:=false,isCoroutine:=false }
noncomputable abbrev ir:rF:=fun _ _ _ _ _ _=>False
noncomputable abbrev E0:XK:=fun _ _ _=>False
theorem Cd {X:Cx}:Passes ir X E0:=fun _ _ _ _ _ _ _ h=>h.elim
structure d5 (K:Jd)(x qual:Str)(st:Stmt)(f:Addr)(fd:FuncData):Prop where
 ex:∃(oc:Value) (od:Option Addr) (kV doc pm:Value) (an:Option Addr) (dS ct:Value) (xJ:Array (Option Value)),
  fd=Wi x qual (fG st) (eI st) (aF st) .none kV doc pm an dS ct/\K.lookup f=some ⟨oc,od,.func fd,xJ⟩/\PySem.W.codeIn K dS qual=true
 kp:PySem.W.keepIn K (.ref f)=true
section
variable {P:Program}{w:World}{K:Jd}{mg:Str->Option Value}{base:Heap}
theorem d5.ok {x qual:Str}{st:Stmt}{f:Addr}{fd:FuncData}{N ps:List Str}{k:Nat}{sp:Sp}(F:d5 K x qual st f fd)(S:bb N ps (aF st))(len:∀vs H Q E,sp vs H Q E->vs.length=ps.length)
  (sA:∀(dS:Value) (A:Around) (outer:List Env) (s:Shared) (H:Hp) (vs:List V) (Q:VK) (E:XK),du k (A.deeper (envOfC qual (aF st) s.heap.objs.size f dS))->sp vs H Q E ->
   ∃t,qW (qX ir P w K mg base N qual (aF st) f dS A outer s H E).Dr (eI st) t/\t { nx:=fun _ H'=>Q .non H',rt:=Q } (start N vs) H):cf P w K mg base ir (k+1) f fd ps sp:=by
 obtain⟨oc,od,kV,doc,pm,an,dS,ct,xJ,rfl,lk,qL⟩:=F.ex
 refine AB lk qL S len fun A outer s H vs Q E hr qC =>?_
 obtain⟨t,h,q⟩:=sA dS A outer s H vs Q E hr qC
 exact⟨t,h.Dr,q⟩
theorem d5.binds {x qual:Str}{st:Stmt}{f:Addr}{fd:FuncData}{ps:List Str}(F:d5 K x qual st f fd)
  (h:∀(kV doc pm:Value) (an:Option Addr) (dS ct:Value) (us:List Value),us.length=ps.length->bindArgs (Wi x qual (fG st) (eI st) (aF st) .none kV doc pm an dS ct) ⟨us,[]⟩=pure (ps.zip us)):Binds K fd ps []:=by
 obtain⟨oc,od,kV,doc,pm,an,dS,ct,xJ,rfl,lk,qL⟩:=F.ex
 exact .all (h kV doc pm an dS ct)
theorem bS {x qual:Str}{st:Stmt}{f:Addr}{oc:Value}{od an:Option Addr}{xJ:Array (Option Value)}{kV doc pm dS ct:Value}(l:K.lookup f=some ⟨oc,od,.func (Wi x qual (fG st) (eI st) (aF st) .none kV doc pm an dS ct),xJ⟩)
  (c:PySem.W.codeIn K dS qual=true) (k:PySem.W.keepIn K (.ref f)=true):d5 K x qual st f (Wi x qual (fG st) (eI st) (aF st) .none kV doc pm an dS ct):=⟨⟨oc,od,kV,doc,pm,an,dS,ct,xJ,rfl,l,c⟩,k⟩
end
theorem jE {A:Around}{k:Nat}(hr:du k A):A.units+1<cLine:=Uc (U3 (by decide:1<=64) _) hr.units
section
variable {X:Cx}
theorem pv (i:Nat){x:Str}{pos:Pos}(hN:X.N[i]? = some x:=by rfl)(hv:BV X.env.scope x:=by first|exact Or.inl rfl|exact Or.inr (Or.inl rfl)|exact Or.inr (Or.inr rfl))(hd:(x==("__debug__" : Str))=false:=by decide)
  (qL:(x==("__classdict__" : Str))=false:=by decide):PE X (.Name x pos) (tm i):=zu hN hv hd qL
end
theorem cM {A B:Prop}(h:B):if false=true then A else B:=by
 rw[if_neg Jk]
 exact h
theorem eh {A B:Prop}(h:A):if true=true then A else B:=by
 rw[if_pos rfl]
 exact h
theorem eK {c A B:Prop}[Decidable c](h1:c->A)(h2:¬c->B):if c then A else B:=by
 by_cases h:c
 ·rw[if_pos h]
  exact h1 h
 ·rw[if_neg h]
  exact h2 h
noncomputable def aw (H H':Hp):Prop:=∀b o,H b=some o->H' b=some o
theorem aw.refl (H:Hp):aw H H:=fun _ _ h=>h
theorem aw.trans {H H1 H2:Hp}(a:aw H H1)(b:aw H1 H2):aw H H2:=fun c o h=>b c o (a c o h)
theorem aw.free {H H':Hp}(e:aw H H'){l:Addr}(h:H' l=Option.none):H l=Option.none:=by
 cases q:H l with
 | none=>rfl
 | some o=>
  rw[e l o q] at h
  cases h
theorem aw.seq {K:Jd}{H H':Hp}{a:Addr}{xs:List V}(e:aw H H')(h:aB K H a xs):aB K H' a xs:=by
 rcases h with (h|⟨o,h⟩)|h
 ·exact .inl (.inl (e _ _ h))
 ·exact .inl (.inr ⟨o,e _ _ h⟩)
 ·exact .inr h
section
variable {X:Cx}
theorem qU:bN X (.builtin "len") (fun xs H Q=>∃a kvs,xs=[V.ref a]/\H a=some (.dK kvs)/\Q (.int kvs.length) H):=by
 intro pins s σ H xs us Q I r h
 obtain⟨a,kvs,rfl,ha,q⟩:=h
 obtain⟨u,rfl,ru⟩:=vals1 r
 cases ru
 exact CA I (.inl ha) fun t s' I'=>⟨.int kvs.length,H,I',⟨t,rfl⟩,q⟩
end
section
variable {κ:Type}[DecidableEq κ]
theorem e7 {kvs:List (κ×V)}{k: κ}(h:aq kvs k=none):¬k∈kvs.map (·.1):=by
 intro m
 obtain⟨p,hp,e⟩:=Jv.mp m
 have q:(kvs.any fun kv=>decide (kv.1=k))=true:=List.any_eq_true.mpr ⟨p,hp,decide_eq_true e⟩
 rw[dj,h] at q
 exact absurd q (by simp)
theorem iT {kvs:List (κ×V)}{k: κ}{v:V}(h:aq kvs k=some v):k∈kvs.map (·.1):=by
 have q:(kvs.any fun kv=>decide (kv.1=k))=true:=by
  rw[dj,h]
  all_goals rfl
 obtain⟨p,hp,e⟩:=List.any_eq_true.mp q
 exact Jv.mpr ⟨p,hp,of_decide_eq_true e⟩
theorem pZ:∀{l:List κ} {k: κ},l.Nodup->¬k∈l->(l++[k]).Nodup
 | [],k,_,_=>by simp
 | a::r,k,h,hk=>by
  obtain⟨h1,h2⟩:=U4.mp h
  show(a::(r++[k])).Nodup
  refine U4.mpr ⟨fun m =>?_,pZ h2 fun m=>hk (Ug.mpr (Or.inr m))⟩
  rcases Jj.mp m with q|q
  ·exact h1 q
  ·exact hk (Ug.mpr (Or.inl (Jb.mp q).symm))
end
end L2
set_option maxHeartbeats 4000000
namespace L2
open PySem PySem.Spec PyProof.Rows
noncomputable abbrev eQ:Value->Shared->Prop:=fun _ _=>False
theorem bg {α:Type}{M:Model}{A:Around}{t:Sem α}{Q: α->Shared->Prop}{E:Value->Shared->Prop}{s:Shared}(h:wpAny M A t Q eQ s):wpAny M A t Q E s:=
 wpAny_mono h (fun _ _ q=>q) fun _ _ z=>z.elim
theorem bU {a b:Addr}{n:Nat}(h:a<n)(h':n<=b):a≠b:=fun e=>absurd (Jy h h') (by rw[e];exact U6 _)
theorem nL {a b:Addr}{n:Nat}(h:a<n)(h':n<=b):b≠a:=fun e=>bU h h' e.symm
theorem gz (env:Env):∀(names:List (Str×NameKind)) (acc:List (Str×Addr)),
  (∀y∈names,y.2 = .free->∃c,env.cells.lookup y.1=some c)->(∀n c,acc.lookup n=some c->env.cells.lookup n=some c) ->
  ∃cl,(forIn names acc fun(x:Str×NameKind) (cs:List (Str×Addr))=>(if (x.2==NameKind.free)=true then do
    let a <-cellOf env x.1
    pure (ForInStep.yield ((x.1,a)::cs)) else pure (ForInStep.yield cs):Sem (ForInStep (List (Str×Addr)))))=pure cl /\
   (∀n c,cl.lookup n=some c->env.cells.lookup n=some c)/\(∀n c,acc.lookup n=some c->∃c',cl.lookup n=some c')/\∀y∈names,y.2 = .free->∃c,cl.lookup y.1=some c
 | [],acc,_,h2=>⟨acc,rfl,h2,fun _ c h=>⟨c,h⟩,fun _ h=>nomatch h⟩
 | (n,k)::r,acc,h1,h2=>by
  have hr:∀y∈r,y.2 = .free->∃c,env.cells.lookup y.1=some c:=fun y hy=>h1 y (Jo _ hy)
  by_cases hk:k = .free
  ·subst hk
   obtain⟨c,hc⟩:=h1 (n,.free) Jp rfl
   obtain⟨cl,e,p1,p2,p3⟩:=gz env r ((n,c)::acc) hr (fun m d hm=>by
    rw[Uq] at hm
    by_cases q:m==n
    ·rw[q] at hm
     have:m=n:=by simpa using q
     subst this
     cases hm
     exact hc
    ·have q':(m==n)=false:=by simpa using q
     rw[q'] at hm
     exact h2 m d hm)
   refine⟨cl,?_,p1,fun m d hm =>?_,fun y hy hf =>?_⟩
   ·rw[List.forIn_cons]
    rw[<-e]
    show(cellOf env n >>= fun a=>_) >>= _=_
    unfold cellOf
    rw[hc]
    rfl
   ·by_cases q:m=n
    ·subst q
     exact p2 m c (by rw[Uq];simp)
    ·exact p2 m d (by rw[Uq];simp -iota only [beq_eq_false_iff_ne.mpr q];exact hm)
   ·rcases Ug.mp hy with rfl|hy
    ·exact p2 n c (by rw[Uq];simp)
    ·exact p3 y hy hf
  ·refine ae.el (gz env r acc hr h2) _ ?_
   rintro cl e p1 p2 p3
   refine⟨cl,?_,p1,p2,fun y hy hf =>?_⟩
   ·rw[List.forIn_cons,<-e]
    have hb:(k==NameKind.free)=false:=by simpa using hk
    simp -iota only [hb,J6,if_false]
    rfl
   ·rcases Ug.mp hy with rfl|hy
    ·exact absurd hf hk
    ·exact p3 y hy hf
theorem gq {scope:Scope}{env:Env}(h:∀y∈scope.names,y.2 = .free->∃c,env.cells.lookup y.1=some c):
  ∃cl,closureFor scope env=pure cl/\(∀n c,cl.lookup n=some c->env.cells.lookup n=some c)/\∀y∈scope.names,y.2 = .free->∃c,cl.lookup y.1=some c:=by
 obtain⟨cl,e,p1,_,p3⟩:=gz env scope.names [] h (fun n c h=>by simp at h)
 refine⟨cl,?_,p1,p3⟩
 unfold closureFor
 refine Eq.trans ?_ (congrArg (fun m=>m >>= fun(cs:List (Str×Addr))=>(pure cs:Sem _)) e)
 rfl
noncomputable def lN (ifs:List Expr)(env:Env):Sem Bool:=forIn ifs true fun c r=>if r=true then do let ok <-isTrue c env (eval c env);pure (ForInStep.yield ok) else pure (ForInStep.yield r)
section
variable {prog:Program}{w:World}{A:Around}{R:Result->Shared->Prop}{s:Shared}
theorem pe {elt target iter:Expr}{ifs:List Expr}{scope:Scope}{pos:Pos}{it acc:Value}{env:Env}(I:Nat->Shared->Prop)
  (turn:∀n s,I n s->wpAny (model prog w) A (pyNext it) (fun r s1=>match r with
   | none=>R (.ok .next) s1
   | some v=>wpAny (model prog w) A (letOwnedTupleGo target it v) (fun _ s1'=>wpAny (model prog w) A (assign target env v) (fun _ s2=>
     wpAny (model prog w) A (lN ifs env) (fun ok s3=>
      if ok=true then wpAny (model prog w) A (eval elt env) (fun x s4=>
       wpAny (model prog w) A (call (.builtin "list.append") [acc,x]) (fun _ s5=>∃m,m<n/\I m s5) eQ s4) eQ s3
      else ∃m,m<n/\I m s3) eQ s2) eQ s1') eQ s1) eQ s)
  (n:Nat) (h:I n s):codeAny (model prog w) A (.compLoop (.ListComp elt [⟨target,iter,ifs,0⟩] scope pos) 0 it acc env) R s:=by
 refine codeAny_loop rfl I (fun n s hI=>(show wpAny _ A (Sem.onRaise (compTurn (.ListComp elt [⟨target,iter,ifs,0⟩] scope pos) 0 it acc env) (fun x=>do noteFrame x env;theTreesLotGoes x)) _ _ s from wpAny_noted ?_)) n h
 rw[compTurn_list]
 refine wpAny_bind (wpAny_standAt (wpAny_bind (bg (aM (turn n s hI) fun r s1 h1 =>?_))))
 cases r with
 | none=>exact wpAny_pure h1
 | some v=>
  refine wpAny_bind (bg (aM h1 fun _ s1' h1' =>?_))
  refine wpAny_bind (bg (aM h1' fun _ s2 h2=>wpAny_bind (bg (aM h2 fun ok s3 h3 =>?_))))
  cases ok with
  | false=>exact wpAny_pure ⟨rfl,h3⟩
  | true=>exact wpAny_bind (wpAny_bind (bg (aM h3 fun x s4 h4=>wpAny_bind (bg (aM h4 fun _ s5 h5=>wpAny_pure (wpAny_pure ⟨rfl,h5⟩))))))
end
theorem d6.adopt {P:Program}{w:World}{H:Hp}{h:Heap}{a:Addr}{o:HO}(x:d6 P w H h)(hn:H a=none)(new:ba P w (upd H a o) h a o):d6 P w (upd H a o) h:=fun b u e=>by
 by_cases hb:b=a
 ·subst hb;rw[aE] at e;cases e;exact new
 ·rw[aj hb] at e
  exact(x b u e).lu (fun c v _ q=>q) (fun c q=>by rw[aj (ai q hn)];exact q) fun c xs q=>by rw[aj (ai q hn)];exact q
structure cS (X:Cx)(scope:Scope)(Nc Fc:List Str)(js:List Nat):Prop where
 kind:scope.kind = .function
 nocell:∀y∈scope.names,y.2 ≠ .cell
 names:∀y∈scope.names,y.2 = .local->scope.names.lookup y.1=some .local
 free:∀y∈scope.names,y.2 = .free->X.env.kindOf y.1=some .cell∨X.env.kindOf y.1=some .free
 frees:∀(k:Nat) (x:Str),Fc[k]? = some x->scope.names.lookup x=some .free/\∃j,js[k]? = some j/\X.N[j]? = some x
 lens:js.length=Fc.length
noncomputable def cq (σ:St)(js:List Nat):St:=js.map fun j=>(σ[j]?).join
noncomputable def d4 (X:Cx)(Nc Fc:List Str)(scope:Scope)(cl:List (Str×Addr))(C:Addr)(s:Shared)(H:Hp)(fp:List Addr):Cx:=
 { X with N:=Nc++Fc,s₀:=s,H₀:=H,env:=compEnvC scope cl C X.env,outer:=X.stack,stack:=X.stack,ex:=fp,fn:=fun _=>false,pn:=[],xe:=eQ }
theorem ee {env:Env}:∀{names:List (Str×NameKind)} {x:Str} {k:NameKind},(names.map fun(n,k)=>if (k==NameKind.free&&env.scope.kind == .function&&env.kindOf n==some .cell) then (n,NameKind.cell) else (n,k)).lookup x=some k ->
  names.lookup x=some k∨(k = .cell/\names.lookup x=some .free)
 | [],_,_,h=>by simp at h
 | (n,k0)::r,x,k,h=>by
  have ih := @ee env r x k
  rw[Ui] at h
  dsimp only at h
  by_cases hx:x=n
  ·subst hx
   by_cases hc:(k0==NameKind.free&&env.scope.kind == .function&&env.kindOf x==some .cell)=true
   ·rw[if_pos hc] at h
    simp -iota only [Uq,beq_self_eq_true] at h
    have hk:k0 = .free:=by
     have:=(Ye _ _).mp ((Ye _ _).mp hc).1
     simpa using this.1
    subst hk
    cases h
    exact .inr ⟨rfl,by simp only[Uq,beq_self_eq_true]⟩
   ·rw[if_neg hc] at h
    simp -iota only [Uq,beq_self_eq_true] at h ⊢
    exact .inl h
  ·have hb:(x==n)=false:=beq_eq_false_iff_ne.mpr hx
   have e:List.lookup x ((if (k0==NameKind.free&&env.scope.kind == .function&&env.kindOf n==some .cell)=true then (n,NameKind.cell) else (n,k0))::(r.map fun(n,k)=>if (k==NameKind.free&&env.scope.kind == .function&&env.kindOf n==some .cell) then (n,NameKind.cell) else (n,k)))=some k:=h
   have e2:List.lookup x (r.map fun(n,k)=>if (k==NameKind.free&&env.scope.kind == .function&&env.kindOf n==some .cell) then (n,NameKind.cell) else (n,k))=some k:=by
    by_cases hc:(k0==NameKind.free&&env.scope.kind == .function&&env.kindOf n==some .cell)=true
    ·rw[if_pos hc] at e;simp -iota only [Uq,hb] at e;exact e
    ·rw[if_neg hc] at e;simp -iota only [Uq,hb] at e;exact e
   simp -iota only [Uq,hb]
   exact ih e2
theorem cV {env:Env}:∀{names:List (Str×NameKind)} {x:Str},names.lookup x=some .free ->
  (names.map fun(n,k)=>if (k==NameKind.free&&env.scope.kind == .function&&env.kindOf n==some .cell) then (n,NameKind.cell) else (n,k)).lookup x=some .cell ∨
  (names.map fun(n,k)=>if (k==NameKind.free&&env.scope.kind == .function&&env.kindOf n==some .cell) then (n,NameKind.cell) else (n,k)).lookup x=some .free
 | [],_,h=>by simp at h
 | (n,k0)::r,x,h=>by
  have ih := @cV env r x
  rw[Ui]
  dsimp only
  by_cases hx:x=n
  ·subst hx
   simp -iota only [Uq,beq_self_eq_true] at h
   cases h
   by_cases hc:(NameKind.free==NameKind.free&&env.scope.kind == .function&&env.kindOf x==some .cell)=true
   ·rw[if_pos hc];left;simp only[Uq,beq_self_eq_true]
   ·rw[if_neg hc];right;simp only[Uq,beq_self_eq_true]
  ·have hb:(x==n)=false:=beq_eq_false_iff_ne.mpr hx
   simp -iota only [Uq,hb] at h
   by_cases hc:(k0==NameKind.free&&env.scope.kind == .function&&env.kindOf n==some .cell)=true
   ·rw[if_pos hc];simp -iota only [Uq,hb];exact ih h
   ·rw[if_neg hc];simp -iota only [Uq,hb];exact ih h
theorem bF:∀{l:List (Str×NameKind)} {x:Str} {k:NameKind},l.lookup x=some k->(x,k)∈l:=fun h=>PySem.mem_of_lookup h
section
variable {X:Cx}{pins:List (Addr×Obj)}{σ:St}{H:Hp}{s:Shared}{scope:Scope}{Nc Fc:List Str}{js:List Nat}{cl:List (Str×Addr)}{C D:Addr}{fp:List Addr}
theorem jk {x:Str}:(d4 X Nc Fc scope cl C s H fp).env.kindOf x=(scope.names.map fun(n,k)=>if (k==NameKind.free&&X.env.scope.kind == .function&&X.env.kindOf n==some .cell) then (n,NameKind.cell) else (n,k)).lookup x:=rfl
theorem jt (I:Inv X pins σ H s)(c:cS X scope Nc Fc js)(cJ:∀n c,cl.lookup n=some c->X.env.cells.lookup n=some c)(fO:∀y∈scope.names,y.2 = .free->∃c,cl.lookup y.1=some c)
  (hC:s.heap.objs.size<=C) (hf:∀b∈fp,dB X pins H b) (ho:∀b∈fp,∃o,s.heap.get? b=some o):(d4 X Nc Fc scope cl C s H fp).Ok where
 mod:=I.ok.mod
 kind:=c.kind
 glob:=I.ok.glob
 blt:=I.ok.blt
 above:=hC
 inj:=fun x y a h1 h2=>I.ok.inj x y a (cJ _ _ h1) (cJ _ _ h2)
 has:=fun x hx=>by
  have key:scope.names.lookup x=some .free:=by
   rw[jk] at hx
   rcases hx with h|h
   ·rcases ee h with q|⟨_,q⟩
    ·exact absurd rfl (c.nocell _ (bF q))
    ·exact q
   ·rcases ee h with q|⟨q,_⟩
    ·exact q
    ·cases q
  exact fO _ (bF key) rfl
 cab:=fun _ _ h=>nomatch h
 hd:=I.ok.hd
 frames:=I.ok.frames
 stk := .inl rfl
 exf:=fun b hb=>⟨fun z=>by
   obtain⟨o,e⟩:=ho b hb
   exact bU (Jm e) hC z,fun x a e z=>(hf b hb).2.2.2.2.1 x a (cJ _ _ e) z⟩
 bs:=fun b o e=>I.bs b o e
 bsz:=Jq I.ok.bsz I.sz
 noex:=fun b o e hb=>by
  rcases(hf b hb).2.2.2.1 with z|z
  ·exact I.ok.noex b o e z
  ·exact absurd (Jy (Jm (I.ok.bs b o e).1) z) (U6 _)
 exfs:=fun b hb z=>by
  rcases Ug.mp (I.lJ b z) with q|q
  ·exact(hf b hb).2.1 q
  ·exact(hf b hb).2.2.1 q
 g8:=I.stack
 rT:=I.pX
theorem vR (I:Inv X pins σ H s)(c:cS X scope Nc Fc js)(cJ:∀n c,cl.lookup n=some c->X.env.cells.lookup n=some c)(fO:∀y∈scope.names,y.2 = .free->∃c,cl.lookup y.1=some c)
  (hC:s.heap.objs.size<=C) (hD:s.heap.objs.size<=D) (Ax:D≠C) (hf:∀b∈fp,dB X pins H b) (ho:∀b∈fp,∃o,s.heap.get? b=some o) {h1:Heap} {t1:Nat} {m:Str->Option Value} {ob:Obj}
  (hk:∀b o,s.heap.get? b=some o->h1.get? b=some o) (hm:h1.Ns C m) (F0:h1.get? D=some ob) (Ej:∀v,ob.data ≠ .cell v) :
  Inv (d4 X Nc Fc scope cl C s H fp) [(D,ob)] (Jt Nc.length none++cq σ js) H { s with heap:=h1,toks:=t1 }:=by
 refine⟨jt I c cJ fO hC hf ho,rfl,I.bare,Un.kept hk,⟨m,hm,fun i x v e1 e2 e3 =>?_⟩,fun x a e =>?_,I.aN.fresh hC,fun x a e=>I.freeC x a (cJ x a e),fun p hp =>?_,I.aN.kept hk,?_⟩
 ·have e1:(Nc++Fc)[i]? = some x:=e1
  have e2:(Jt Nc.length none++cq σ js)[i]? = some (some v):=e2
  by_cases hi:i<Nc.length
  ·rw[Uh (by simpa using hi),Yn] at e2
   split at e2<;>cases e2
  ·rw[Ua (by omega)] at e1
   rw[Ua (by rw[U1];omega),U1] at e2
   refine ae.el (c.frees _ _ e1) _ ?_
   rintro hfr j hj hN
   have hv: σ[j]? = some (some v):=by
    unfold cq at e2
    rw[Jn,hj] at e2
    have e2:some ((σ[j]?).join)=some (some v):=e2
    cases q: σ[j]? with
    | none=>rw[q] at e2;cases e2
    | some z=>rw[q] at e2;cases e2;rfl
   have kx:=c.free _ (bF hfr) rfl
   refine ae.el (I.loc) _ ?_
   rintro m0 Ha hl0
   have Gi:BV X.env.scope x:=by
    rcases kx with k|k
    ·exact .inr (.inl k)
    ·exact .inr (.inr k)
   refine ae.el (hl0 j x v hN hv Gi) _ ?_
   rintro u ru lk
   refine⟨u,ru,.inr ⟨?_,?_⟩⟩
   ·rw[jk];exact cV hfr
   ·obtain⟨a,ha⟩:=fO _ (bF hfr) rfl
    refine⟨a,ha,?_⟩
    rcases lk with ⟨k,_⟩|⟨_,a',ha',hcell⟩
    ·rcases kx with q|q<;>(rw[k] at q;cases q)
    ·have e:=cJ _ _ ha
     dsimp only at e
     rw[ha'] at e;cases e
     exact hcell.keeps hk
 ·obtain⟨v,z⟩:=I.cell x a (cJ x a e)
  exact⟨v,z.keeps hk⟩
 ·have hp:p=(D,ob):=by
   have:p∈[(D,ob)]:=hp
   simpa using this
  subst hp
  refine⟨F0,I.aN.fresh hD,Ax,fun z =>?_,Ej⟩
  have z:D∈kP X.stack:=z
  rcases Ug.mp (I.lJ D z) with q|q
  ·exact nL I.lt hD q
  ·exact I.BA hD q
 ·show(Jt Nc.length none++cq σ js).length=(Nc++Fc).length
  unfold cq
  rw[Jg,Jg,U1,Ja,c.lens]
end
noncomputable def xS (X:Cx)(ifs:List Expr)(t:TT):Prop:=
 ∀ ⦃pins:List (Addr×Obj)⦄ (s:Shared) (σ:St) (H:Hp) (Q:Bool->Hp->Prop),Inv X pins σ H s->t σ H Q->wpAny (model X.prog X.w) X.A (lN ifs X.env) (TP X pins σ Q) X.xe s
noncomputable def lz:TT:=fun _ H Q=>Q true H
theorem bJ {X:Cx}:xS X [] lz:=fun _ _ _ H _ I h=>wpAny_tests_nil ⟨H,I,h⟩
theorem df {X:Cx}{c:Expr}{t:TT}(h:PT X c t):xS X [c] t:=fun pins s σ H Q I hw=>wpAny_tests_one (h s σ H Q I hw)
noncomputable def pS (J:It)(n:Nat)(js:List Nat)(g:TG)(tc:TT)(te:TE)(σ:St)(H1:Hp)(fin:List V->Hp->Prop):Prop:=
 ∃W:Nat->Nat->List V->Hp->Prop,(∃m,W 0 m [] H1)/\∀i m ys H,W i m ys H ->
  (J.stop i H/\fin ys H) ∨
  (J.go i H/\ys.length<sizeLine/\∀x H',J.yld i H x H'->g x (Jt n none++cq σ js) H' fun σ2 H2=>tc σ2 H2 fun b H3=>
   if b=true then te σ2 H3 fun y H4=>∃m',m'<m/\W (i+1) m' (ys++[y]) H4 else ∃m',m'<m/\W (i+1) m' ys H3)
noncomputable def fB (wi:TI)(n:Nat)(js:List Nat)(g:TG)(tc:TT)(te:TE):TE:=fun σ H Q=>wi σ H fun J H1=>
 pS J n js g tc te σ H1 fun ys H2=>∀p,H2 p=none->Q (.ref p) (upd H2 p (.lst ys))
noncomputable def Gk (n:Nat)(g:TG):Prop:=∀x σ H Q,g x σ H Q->g x σ H fun σ' H'=>Q σ' H'/\(∀j,n<=j -> σ'[j]? = σ[j]?) /\ σ'.length = σ.length
noncomputable def Dw (n:Nat)(g:qP):Prop:=∀x σ H Q,g x σ H Q->g x σ H fun σ' H'=>Q σ' H'/\(∀j,n<=j -> σ'[j]? = σ[j]?) /\ σ'.length = σ.length
theorem aD {n i:Nat}(h:i<n:=by decide):Gk n (fC i):=fun x σ H Q q=>⟨q,fun j hj=>List.getElem?_set_ne (by omega),List.length_set⟩
theorem fK {n:Nat}:Dw n zq:=fun x σ H Q q=>⟨q.1,q.2,fun _ _=>rfl,rfl⟩
theorem br {n:Nat}{t:TG}{u:qP}(h1:Gk n t)(h2:Dw n u)(mt:∀x σ H Q Q',(∀a b,Q a b->Q' a b)->t x σ H Q->t x σ H Q')(mu:∀x σ H Q Q',(∀a b,Q a b->Q' a b)->u x σ H Q->u x σ H Q'):Dw n (sU t u):=fun x σ H Q q=>by
 obtain⟨v,r,e,q⟩:=q
 refine⟨v,r,e,mt _ _ _ _ _ (fun σ1 H1 z =>?_) (h1 _ _ _ _ q)⟩
 refine ae.el (z) _ ?_
 rintro z k1 l1
 exact mu _ _ _ _ _ (fun σ2 H2 ⟨z2,k2,l2⟩=>⟨z2,fun j hj=>(k2 j hj).trans (k1 j hj),l2.trans l1⟩) (h2 _ _ _ _ z)
theorem il {K:Jd}{n m:Nat}{t:qP}(h:Dw n t):Gk n (zy K m t):=fun x σ H Q q=>by
 obtain⟨a,xs,e,h1,h2,q⟩:=q
 exact⟨a,xs,e,h1,h2,h _ _ _ _ q⟩
theorem kc {X:Cx}{elt tg iter:Expr}{ifs:List Expr}{scope:Scope}{pos:Pos}{Nc Fc:List Str}{js:List Nat}{wi:TI}{g:TG}{tc:TT}{te:TE}{use:Option (Value->Sem Unit)}{QV:Value->Shared->Prop}
  (cg:X.calm=true) (c:cS X scope Nc Fc js) (hi:PI X tg iter wi)
  (hg:∀cl C s H fp,PG (d4 X Nc Fc scope cl C s H fp) tg g) (tx:∀cl C s H fp,xS (d4 X Nc Fc scope cl C s H fp) ifs tc) (A1:∀cl C s H fp,PE (d4 X Nc Fc scope cl C s H fp) elt te) (gk:Gk Nc.length g)
  {pins:List (Addr×Obj)} {s:Shared} {σ:St} {H:Hp} {fin:List V->Hp->Prop} (I:Inv X pins σ H s)
  (h:wi σ H fun J H1=>pS J Nc.length js g tc te σ H1 fin)
  (behind:∀(C D:Addr) (m:Str->Option Value) (ys:List V) (H2:Hp) (s2:Shared),Inv X pins σ (upd H2 D (.lst ys)) s2->s2.heap.Ns C m->dB X pins (upd H2 D (.lst ys)) C->H2 D=none->fin ys H2->compPost (model X.prog X.w) X.A X.xe use QV (.ref D) C (.ok .next) s2)
  (hs:∀x,foldedSetIterable iter X.env x=pure x) :
  wpAny (model X.prog X.w) X.A (comprehension (.ListComp elt [⟨tg,iter,ifs,0⟩] scope pos) scope X.env (firstIterPos [⟨tg,iter,ifs,0⟩] pos) (newList []) false (eval iter X.env) use) QV X.xe s:=by
 obtain⟨cl,hclos,cJ,fO⟩:=gq (scope:=scope) (env:=X.env) fun y hy hf=>I.ok.has y.1 (c.free y hy hf)
 refine wpAny_comprehension_free (use:=use) rfl hs hclos c.kind c.names ?_
 refine aM (hi s σ H _ I h) fun v s1 h1=>aM h1 fun Ae s2 h2 =>?_
 obtain⟨it,fp,tn,J,H2,e,I2,T,bz,f2,W,⟨m0,w0⟩,turn⟩:=h2
 subst e
 refine wpAny_newObj_type (wpAny_newFunctionEnv c.nocell (by intro y hy;simp at hy) (fun h1 hns1 hsb1 =>?_) c.kind)
 dsimp only at hns1 hsb1 ⊢
 generalize hG:s2.heap.push { cls := .type "list",dict:=none,data := .seq ([]:List Value).toArray } = G at hns1 hsb1 ⊢
 have hC:G.objs.size=s2.heap.objs.size+1:=by rw[<-hG,Wg]
 have Ax:s2.heap.objs.size≠G.objs.size:=by rw[hC];exact J5 (Nat.lt_succ_self _)
 have hle:s2.heap.objs.size<=G.objs.size:=by rw[hC];exact Yt _
 have old:∀b o,s2.heap.get? b=some o->h1.get? b=some o:=fun b o e=>
  hsb1.extBut b o (bU (Jm e) hle) (Jc _ (hG▸Jc _ e))
 have lM:h1.PlainList s2.heap.objs.size #[]:=⟨_,hsb1.extBut _ _ Ax (Jc _ (hG▸Js _ rfl))⟩
 obtain⟨n0,lM⟩:=lM
 have fo:∀b∈fp,∃o,s2.heap.get? b=some o:=fun b hb=>let ⟨o,e,_⟩:=T.obj 0 _ bz b hb; ⟨o,e⟩
 have jW:∀b∈fp,b<s2.heap.objs.size:=fun b hb=>let ⟨o,e⟩:=fo b hb;Jm e
 let Xc:Cx:=d4 X Nc Fc scope cl G.objs.size s2 H2 fp
 let D:Addr:=s2.heap.objs.size
 have eg:∀{pl:List (Addr×Obj)} {H':Hp},(∀p∈pl,p.1=D)->(∀b∈fp,H' b=none)->∀b∈fp,dB Xc pl H' b:=fun{pl H'} hp hn b hb=>by
  refine⟨hn b hb,?_,?_,.inl hb,fun x a e =>?_,fun p hq =>?_⟩
  ·exact bU (jW b hb) hle
  ·exact(jt I2 c cJ fO hle f2 fo).exfs b hb
  ·exact(f2 b hb).2.2.2.2.1 x a (cJ _ _ e)
  ·have q:p∈([]:List (Addr×Obj))++pl:=hq
   rw[hp p (by simpa using q)]
   exact nL (jW b hb) (Je _)
 have loop:∀t1,codeAny (model X.prog X.w) X.A (.compLoop (.ListComp elt [⟨tg,iter,ifs,0⟩] scope pos) 0 (.ref it) (.ref s2.heap.objs.size) (compEnvC scope cl G.objs.size X.env))
   (compPost (model X.prog X.w) X.A X.xe use QV (.ref s2.heap.objs.size) G.objs.size) { s2 with heap:=h1,toks:=t1 }:=by
  intro t1
  refine pe (fun n s'=>∃i ys H' au k,Inv Xc [(D,{ cls := .type "list",data := .seq au k })] (Jt Nc.length none++cq σ js) H' s'/\Vals ys au.toList/\ys.length<=sizeLine/\tn i s'.heap/\(∀b∈fp,H' b=none)/\W i n ys H') ?_ m0
   ⟨0,[],H2,#[],n0,vR I2 c cJ fO hle (Je _) Ax f2 fo old hns1 lM (fun _ z=>nomatch z),.nil,Um _,T.keep _ _ _ bz (fun b hb o e=>old b o e),fun b hb=>(f2 b hb).1,w0⟩
  intro n s3
  refine ae.go ?_
  rintro i ys H3 au k I3 rv hz cv fr3 w3
  have sX:∀p∈[(D,({ cls := .type "list",data := .seq au k }:Obj))],p.1=D:=fun p hp=>congrArg Prod.fst (Jb.mp hp)
  rcases turn i n ys H3 w3 with ⟨stop,qn⟩|⟨go,bP,step⟩
  ·refine aM (T.done Xc rfl rfl rfl cg i _ s3 _ H3 eQ I3 (eg sX fr3) cv stop) fun r s4 hz_ =>?_
   refine ae.el hz_ _ ?_
   clear hz_
   rintro hr I4
   subst hr
   show compPost _ _ _ _ _ _ _ _ _
   obtain⟨hDo,vz,hDne,hDfs,_⟩:=I4.pin (D,_) (Ji _ Jp)
   have E9:D≠G.objs.size:=Ax
   refine ae.el (I4.loc) _ ?_
   rintro mC hmC _
   have CT:H3 G.objs.size=none:=I4.free
   have IA:∀b o,s2.heap.get? b=some o->b≠D:=fun b o e=>J5 (Jm e)
   have u:Un (kP X.stack) fp H2 H3 s2.heap s4.heap:=I4.base
   have zx:H2 D=none:=I2.aN.fresh (Je _)
   have u':Un (kP X.stack) fp H2 (upd H3 D (.lst ys)) s2.heap s4.heap:=
    ⟨u.keep,u.slot,fun b o e n hx=>by rw[aj (IA b o e)];exact u.free b o e n hx,u.there,
      fun b xs e=>by rw[aj (ai e zx)];exact u.fw b xs e,fun b o xs e=>by rw[aj (ai e zx)];exact u.dH b o xs e,
      fun b ps e=>by rw[aj (ai e zx)];exact u.fR b ps e⟩
   have zM:d6 X.prog X.w (upd H3 D (.lst ys)) s4.heap:=I4.aN.adopt vz ⟨hz,au.toList,k,rv,by simpa using hDo⟩
   have nT:∀b∈fp,(b∈X.ex∨X.s₀.heap.objs.size<=b)/\b≠X.env.locals/\(∀x c,X.env.cells.lookup x=some c->c≠b)/\∀p∈X.pn++pins,p.1≠b:=fun b hb=>
    ⟨(f2 b hb).2.2.2.1,(f2 b hb).2.1,(f2 b hb).2.2.2.2.1,(f2 b hb).2.2.2.2.2⟩
   have CN:s4.os=s2.os:=I4.os
   have J4:Inv X pins σ (upd H3 D (.lst ys)) s4:=I2.pJ (H':=upd H3 D (.lst ys)) CN u' zM I4.bare nT
   refine behind G.objs.size D mC ys H3 s4 J4 hmC (I2.iE hle ?_) vz qn
   rw[aj (Ne.symm E9)]
   exact CT
  ·refine aM (T.item Xc rfl rfl rfl cg i _ s3 _ H3 eQ I3 (eg sX fr3) cv go) fun r s4 hz_ =>?_
   refine ae.el hz_ _ ?_
   clear hz_
   rintro u hr h4
   subst hr
   show wpAny _ _ (letOwnedTupleGo tg (.ref it) u) _ _ _
   refine aM h4 fun _ s5 hz_ =>?_
   refine ae.el hz_ _ ?_
   clear hz_
   rintro x H5 I5 r5 y5 cG fr5
   have v5:=I5.pinned (eg sX fr5) (T.obj _ _ cG)
   refine aM (hg cl G.objs.size s2 H2 fp s5 _ H5 x u _ v5 r5 (gk _ _ _ _ (step x H5 y5))) fun _ s6 hz_ =>?_
   refine ae.el hz_ _ ?_
   clear hz_
   rintro σ6 H6 I6 q6 kσ kl
   refine aM (tx cl G.objs.size s2 H2 fp s6 σ6 H6 _ I6 q6) fun b s7 hz_ =>?_
   refine ae.el hz_ _ ?_
   clear hz_
   rintro H7 I7 q7
   have later:∀{σ':St} {H':Hp} {s':Shared},Inv Xc ([(D,({ cls := .type "list",data := .seq au k }:Obj))]++dq fp s5.heap) σ' H' s'->tn (i+1) s'.heap/\∀b∈fp,H' b=none:=fun{σ' H' s'} Iz=>by
    refine⟨T.keep _ _ _ cG fun b hb o e=>(Iz.pin (b,o) (Ji _ (Ji _ (bw hb e)))).1,fun b hb =>?_⟩
    refine ae.el (T.obj _ _ cG b hb) _ ?_
    rintro o e d
    exact(Iz.pin (b,o) (Ji _ (Ji _ (bw hb e)))).2.1
   have back:∀{pl:List (Addr×Obj)} {H':Hp} {s':Shared},Inv Xc pl σ6 H' s'->Inv Xc pl (Jt Nc.length none++cq σ js) H' s':=fun{pl H' s'} Iz=>by
    refine Iz.weak (by rw[<-kl]) fun j v hj =>?_
    by_cases hn:j<Nc.length
    ·rw[Uh (by simpa using hn),Yn] at hj
     split at hj<;>cases hj
    ·rw[kσ j (by omega)];exact hj
   cases b with
   | false=>
    rw[if_neg Jk] at q7 ⊢
    refine ae.el (q7) _ ?_
    rintro m' nR w7
    obtain⟨l1,l2⟩:=later I7
    exact⟨m',nR,i+1,ys,H7,au,k,back I7.cQ,rv,hz,l1,l2,w7⟩
   | true=>
    rw[if_pos rfl] at q7 ⊢
    refine aM (A1 cl G.objs.size s2 H2 fp s7 σ6 H7 _ I7 q7) fun yv s8 hz_ =>?_
    refine ae.el hz_ _ ?_
    clear hz_
    rintro y H8 I8 r8 q8
    refine ae.el (q8) _ ?_
    rintro m' nR w8
    obtain⟨hDo,vz,hDne,hDfs,_⟩:=I8.pin (D,_) (Ji _ (Jx _ Jp))
    obtain⟨l1,l2⟩:=later I8
    have hits:au.size=ys.length:=by
     have e1:=rv.length
     simp -iota only [Jr] at e1
     omega
    refine wpAny_list_append_plain (hsz:=by omega) ⟨k,hDo⟩ fun h9 hl9 hs9 =>?_
    obtain⟨k9,hD9⟩:=hl9
    have Fu:∀p∈dq fp s5.heap,p.1≠D:=fun p hp=>by
     obtain⟨hb,_⟩:=kh hp
     exact bU (jW _ hb) (Je _)
    have JM:Inv Xc (dq fp s5.heap) σ6 H8 s8:=I8.iR fun p hp=>I8.pin p (Ji _ (Ji _ hp))
    have I9:Inv Xc (dq fp s5.heap) σ6 H8 { s8 with heap:=h9,toks:=s8.toks }:=JM.turned (it:=D) (fun b o hb e=>hs9.extBut b o hb e) vz Ax (.inr (Je _))
     (fun x a e z=>by
      obtain⟨v,q⟩:=I2.cell x a (cJ _ _ e)
      exact bU q.lt (Je _) z) (fun p hp=>Fu p (by
       have hp:p∈([]:List (Addr×Obj))++dq fp s5.heap:=hp
       simpa using hp))
    obtain⟨B6,fr9⟩:tn (i+1) h9/\∀b∈fp,H8 b=none:=by
     refine⟨T.keep _ _ _ l1 fun b hb o e=>hs9.extBut b o ?_ e,l2⟩
     exact bU (jW _ hb) (Je _)
    refine⟨m',nR,i+1,ys++[y],H8,au.push yv,k9,back (I9.iR fun p hp =>?_),?_,?_,B6,fr9,w8⟩
    ·cases Jb.mp hp
     exact⟨hD9,vz,hDne,hDfs,fun _ z=>nomatch z⟩
    ·rw[U9]
     exact rv.append (.cons r8 .nil)
    ·rw[Jg,List.length_singleton];omega
 exact codeAny_compStart_list (loop _) (T.self _ 0 _ _ _ (T.keep _ _ _ bz fun b hb o e=>old b o e) (loop _))
theorem bR {X:Cx}{elt tg iter:Expr}{ifs:List Expr}{scope:Scope}{pos:Pos}{Nc Fc:List Str}{js:List Nat}{wi:TI}{g:TG}{tc:TT}{te:TE}
  (cg:X.calm=true) (c:cS X scope Nc Fc js) (hi:PI X tg iter wi) (gk:Gk Nc.length g)
  (hg:∀cl C s H fp,PG (d4 X Nc Fc scope cl C s H fp) tg g) (tx:∀cl C s H fp,xS (d4 X Nc Fc scope cl C s H fp) ifs tc) (A1:∀cl C s H fp,PE (d4 X Nc Fc scope cl C s H fp) elt te)
  (hs:∀x,foldedSetIterable iter X.env x=pure x:=by intro _;rfl) :
  PE X (.ListComp elt [⟨tg,iter,ifs,0⟩] scope pos) (fB wi Nc.length js g tc te):=by
 intro pins s σ H Q I h
 rw[eval_ListComp]
 refine kc (use:=none) cg c hi hg tx A1 gk I h (fun C D m ys H2 s2 I2 hm hC hD q =>?_) hs
 refine⟨m,hm,fun h' hs' =>?_⟩
 refine⟨.ref D,_,I2.turned (it:=C) (t':=s2.toks) (fun b o hb e=>hs'.extBut b o hb e) hC.1 (hC.2.1) hC.2.2.2.1 hC.2.2.2.2.1 hC.2.2.2.2.2,rfl,q D hD⟩
theorem bL {X:Cx}{i:Nat}{y:Str}{elt tg iter:Expr}{ifs:List Expr}{scope:Scope}{pos pos' py:Pos}{Nc Fc:List Str}{js:List Nat}{wi:TI}{g:TG}{tc:TT}{te:TE}(hN:X.N.Nodup)(hy:X.N[i]? = some y)(hl:Loc X.env.scope y)
  (cg:X.calm=true) (c:cS X scope Nc Fc js) (hi:PI X tg iter wi) (gk:Gk Nc.length g)
  (hg:∀cl C s H fp,PG (d4 X Nc Fc scope cl C s H fp) tg g) (tx:∀cl C s H fp,xS (d4 X Nc Fc scope cl C s H fp) ifs tc) (A1:∀cl C s H fp,PE (d4 X Nc Fc scope cl C s H fp) elt te)
  (Eg:swapsWith (.ListComp elt [⟨tg,iter,ifs,0⟩] scope pos) (some (.Name y py)) pos'.line X.env=pure true:=by rfl)
  (hs:∀x,foldedSetIterable iter X.env x=pure x:=by intro _;rfl)
  (hf:X.fn y=true∨X.env.scope.names.lookup y=some .local:=by first|exact .inl rfl|exact .inr rfl|assumption) :
  PS X (.Assign [.Name y py] (.ListComp elt [⟨tg,iter,ifs,0⟩] scope pos) pos') (q5 (fB wi Nc.length js g tc te) (fC i)):=by
 intro pins s σ H E I h
 rw[exec_Assign_Name_used _ _ _ _ Eg]
 refine wpAny_bind (wpAny_standAt (wpAny_bind ?_))
 show wpAny _ X.A (do let _ <-comprehension (.ListComp elt [⟨tg,iter,ifs,0⟩] scope pos) scope X.env _ (newList []) false (eval iter X.env) (some (assign (.Name y py) X.env))) _ _ s
 refine wpAny_bind (aM (kc (use:=some (assign (.Name y py) X.env)) (QV:=fun _ s'=>SP X pins E .next s') cg c hi hg tx A1 gk I h (fun C D m ys H2 s2 I2 hm hC hD q =>?_) hs) fun _ s' hq=>wpAny_pure (wpAny_pure hq))
 show wpAny _ _ (assign (.Name y py) X.env (.ref D)) _ _ s2
 refine wpAny_assign_Name (hJ I2 hN hy hl (v := .ref D) rfl (fun s3 I3 ⟨a,rO,ha⟩=>?_) hf)
 have iB:C≠a:=by
  rcases ha with e|e
  ·rw[e];exact hC.2.1
  ·exact fun z=>hC.2.2.2.2.1 _ _ e z.symm
 refine⟨m,hm.at' fun o e=>rO.extBut _ o iB e,fun h' hs' =>?_⟩
 exact⟨_,_,I3.turned (it:=C) (t':=s3.toks) (fun b o hb e=>hs'.extBut b o hb e) hC.1 hC.2.1 hC.2.2.2.1 hC.2.2.2.2.1 hC.2.2.2.2.2,q D hD⟩
section
variable {X:Cx}{pins:List (Addr×Obj)}{σ:St}{H:Hp}{s:Shared}{p:Addr}{ys:List V}
theorem h7 {A:Around}(hh:A.handled=none)(I:Inv X pins σ H s)(hq:aB X.K H p ys){R:Value->Shared->Prop}{E:Value->Shared->Prop}
  (h:∀(au:List Value) (it:Addr) (s2:Shared),Vals ys au->au.length<=sizeLine ->
   Walks X.prog X.w A it [it,p] [it] au.toArray.size (fun i v=>au.toArray[i]? = some v) (fun i h=>h.IsListIter it p i/\h.IsList p au.toArray)->(s2.heap.IsListIter it p 0/\s2.heap.IsList p au.toArray)->(∀b∈[it,p],b<s2.heap.objs.size) ->
   (∀h' tk,(∀b o,b∉[it]->s2.heap.get? b=some o->h'.get? b=some o)->Inv X pins σ H { s2 with heap:=h',toks:=tk })->R (.ref it) s2) :
  wpAny (model X.prog X.w) A (pyIter (.ref p)) R E s:=by
 obtain⟨au,rv,pl,hz⟩:=I.list hq
 have hl:=pl.isList
 have hp:p<s.heap.objs.size:=by obtain⟨o,e,_⟩:=hl;exact Jm e
 refine wpAny_pyIter_list hl ?_
 refine h au s.heap.objs.size _ rv (by have:=rv.length;omega) (Walks.list hh _ p (J5 hp) au.toArray) ⟨⟨_,Js _ rfl,rfl,rfl⟩,hl.push _⟩ (fun b hb =>?_) fun h' tk hk =>?_
 ·show b<(s.heap.push _).objs.size
  rw[Wg]
  rcases Ug.mp hb with rfl|hb
  ·exact Nat.lt_succ_self _
  ·rw[Jb.mp hb];exact Wc hp
 ·exact I.kept (t':=tk) fun b o e=>hk b o (fun z=>bU (Jm e) (Je _) (Jb.mp z)) (Jc _ e)
theorem fF {ys:List V}{au:List Value}(r:Vals ys au){i:Nat}{v:Value}(e:au.toArray[i]? = some v):∃y,ys[i]? = some y/\RelV y v:=by
 have e':au[i]? = some v:=by simpa using e
 have hi:i<au.length:=(Ju.mp e').1
 have hl:=r.length
 obtain⟨u,h1,h2⟩:=r.get (i:=i) (x:=ys[i]'(by omega)) (by simp)
 rw[e'] at h1;cases h1
 exact⟨_,by simp,h2⟩
theorem range_all (bs:List Bool):(Wh bs.length).all (fun i=>bs.getD i false)=bs.all id:=by
 induction bs with
 | nil=>rfl
 | cons b r ih=>
  rw[J1,List.range_succ_eq_map,List.all_cons,List.all_map,List.all_cons,<-ih]
  rfl
theorem tS {A:Around}{bs:List Bool}{au:List Value}(r:Vals (bs.map V.bl) au):TruthOf X.prog X.w A (fun i v=>au.toArray[i]? = some v) (fun i=>bs.getD i false):=by
 intro i v s Q E e hQ
 obtain⟨y,h1,h2⟩:=fF r e
 rw[Jn] at h1
 cases q:bs[i]? with
 | none=>rw[q] at h1;cases h1
 | some b=>
  rw[q] at h1;cases h1
  cases h2
  have:bs.getD i false=b:=by simp[List.getD,q]
  have hQ:Q (bs.getD i false) s:=hQ
  rw[this] at hQ
  exact wpAny_pure hQ
theorem m9 (hc:X.calm=true):bN X (.builtin "all") (fun xs H Q=>∃(p:Addr) (bs:List Bool),xs=[.ref p]/\aB X.K H p (bs.map V.bl)/\Q (.bl (bs.all id)) H):=by
 intro pins s σ H xs us Q I r h
 obtain⟨p,bs,rfl,hq,q⟩:=h
 obtain⟨u,rfl,ru⟩:=vals1 r
 cases ru
 refine call_all_walk (h7 (A:=X.A.in1) (I.ok.hd hc) I hq fun au it s2 rv hz W st bP hI =>?_)
 refine⟨it,_,_,_,_,_,fun i=>bs.getD i false,rfl,W,st,tS rv,fun h' tk hk =>?_⟩
 have hl:au.toArray.size=bs.length:=by have:=rv.length;simp at this ⊢;omega
 rw[hl,range_all]
 exact⟨.bl _,H,hI h' tk hk,rfl,q⟩
theorem int_at {ns:List Int}{au:List Value}(r:Vals (ns.map V.int) au){i:Nat}{v:Value}(e:au.toArray[i]? = some v):∃n t,ns[i]? = some n/\v = .int n t:=by
 obtain⟨y,h1,h2⟩:=fF r e
 rw[Jn] at h1
 cases q:ns[i]? with
 | none=>rw[q] at h1;cases h1
 | some b=>
  rw[q] at h1;cases h1
  obtain⟨t,rfl⟩:=h2
  exact⟨b,t,rfl,rfl⟩
theorem jM (hc:X.calm=true):bN X (.builtin "max") (fun xs H Q=>∃(p:Addr) (ns:List Int),xs=[.ref p]/\aB X.K H p (ns.map V.int)/\ns≠[]/\∀M,M∈ns->(∀a∈ns,a<=M)->Q (.int M) H):=by
 intro pins s σ H xs us Q I r h
 obtain⟨p,ns,rfl,hq,iB,q⟩:=h
 obtain⟨u,rfl,ru⟩:=vals1 r
 cases ru
 have Ha:0<ns.length:=Ul.mpr iB
 refine call_max_walk (h7 (A:=X.A.in1) (I.ok.hd hc) I hq fun au it s2 rv hz W st bP hI =>?_)
 have hl:au.toArray.size=ns.length:=by have:=rv.length;simp at this ⊢;omega
 refine⟨it,_,_,_,_,_,fun i j=>decide (ns.getD i 0>ns.getD j 0),rfl,W,st,bP,by omega,?_,fun v h' tk e hk =>?_⟩
 ·refine CmpOf.ints_gt (fun i=>ns.getD i 0) fun{i v} e =>?_
  obtain⟨n,t,h1,rfl⟩:=int_at rv e
  exact⟨t,by simp[List.getD,h1]⟩
 ·obtain⟨n,t,h1,rfl⟩:=int_at rv e
  obtain⟨b1,b2⟩:=argBest_gt (fun i=>ns.getD i 0) (au.toArray.size-1)
  refine⟨.int n,H,hI h' tk hk,⟨_,rfl⟩,q n (Yo h1) fun a ha =>?_⟩
  obtain⟨j,hj⟩:=List.getElem?_of_mem ha
  have Ad:j<ns.length:=(Ju.mp hj).1
  have z:=b2 j (by omega)
  have e1:ns.getD j 0=a:=by simp[List.getD,hj]
  have e2:ns.getD (argBest (fun i j=>decide (ns.getD i 0>ns.getD j 0)) (au.toArray.size-1)) 0=n:=by rw[Yq,h1];rfl
  rw[<-e1,<-e2]
  exact z
theorem xZ (K:Jd)(hc:X.calm=true)(hK:X.K=K:=by rfl):bN X (.builtin "max") (fun xs H Q=>∃(p:Addr) (ns:List Int),xs=[.ref p]/\aB K H p (ns.map V.int)/\ns≠[]/\∀M,M∈ns->(∀a∈ns,a<=M)->Q (.int M) H):=by subst hK;exact jM hc
theorem AK (K:Jd)(hc:X.calm=true)(hK:X.K=K:=by rfl):bN X (.builtin "all") (fun xs H Q=>∃(p:Addr) (bs:List Bool),xs=[.ref p]/\aB K H p (bs.map V.bl)/\Q (.bl (bs.all id)) H):=by subst hK;exact m9 hc
theorem fW:yh X "str.startswith" (fun x vs H Q=>∃a b,x = .str a/\vs=[.str b]/\Q (.bl (Txt.startswith a b)) H):=by
 intro pins s σ H x vs v us Q I rx rv h
 obtain⟨a,b,rfl,rfl,q⟩:=h
 obtain⟨t,rfl⟩:=rx
 obtain⟨u,rfl,t',rfl⟩:=rv.one
 exact SC.startswith ⟨.bl _,H,I,rfl,q⟩
theorem uk:∀{xs:List Str} {au:List Value},Vals (xs.map V.str) au->StrsAre au xs:=by
 intro xs au r
 induction xs generalizing au with
 | nil=>cases r;exact StrsAre.nil
 | cons x xs ih=>
  cases r with
  | cons r1 r2=>
   obtain⟨t,rfl⟩:=r1
   exact StrsAre.cons x t (ih r2)
theorem wV:yh X "str.join" (fun x vs H Q=>∃(sep:Str) (p:Addr) (xs:List Str),x = .str sep/\vs=[.ref p]/\aB X.K H p (xs.map V.str)/\(xs.map (·.length)).sum+xs.length*sep.length<=16777216/\Q (.str (Txt.join sep xs)) H):=by
 intro pins s σ H x vs v us Q I rx rv h
 obtain⟨sep,p,xs,rfl,rfl,hq,hz,q⟩:=h
 obtain⟨t,rfl⟩:=rx
 obtain⟨u,rfl,ru⟩:=rv.one
 cases ru
 obtain⟨au,r',pl,_⟩:=I.list hq
 exact join_list pl.isList (uk r') hz fun t' k=>⟨.str _,H,I.tok _,⟨_,rfl⟩,q⟩
end
mutual
noncomputable def Den (K:Jd)(H:Hp):PyData->V->Prop
 | .none,v=>v = .non
 | .bool b,v=>v = .bl b
 | .int i,v=>v = .int i
 | .str x,v=>v = .str x
 | .list ds,v=>bV fun a vs=>v = .ref a/\aB K H a vs/\aR K H ds vs
 | .tuple ds,v=>bV fun a vs=>v = .ref a/\iC K H a vs/\aR K H ds vs
 | .dict _,_=>False
noncomputable def aR (K:Jd)(H:Hp):List PyData->List V->Prop
 | [],vs=>vs=[]
 | d::ds,vs=>bV fun v r=>vs=v::r/\Den K H d v/\aR K H ds r
end
theorem aw.vK {K:Jd}{H H':Hp}{a:Addr}{xs:List V}(e:aw H H')(h:iC K H a xs):iC K H' a xs:=by
 rcases h with (h|⟨o,h⟩)|h
 ·exact .inl (.inl (e _ _ h))
 ·exact .inl (.inr ⟨o,e _ _ h⟩)
 ·exact .inr h
mutual
theorem Den.same {K:Jd}{H H':Hp}(e:aw H H'):∀{d:PyData} {v:V},Den K H d v->Den K H' d v
 | .none,_,h=>by unfold Den at h ⊢;exact h
 | .bool _,_,h=>by unfold Den at h ⊢;exact h
 | .int _,_,h=>by unfold Den at h ⊢;exact h
 | .str _,_,h=>by unfold Den at h ⊢;exact h
 | .list ds,_,h=>by
  unfold Den at h ⊢
  obtain⟨a,vs,h1,h2,h3⟩:=h
  exact⟨a,vs,h1,e.seq h2,aR.same e h3⟩
 | .tuple ds,_,h=>by
  unfold Den at h ⊢
  obtain⟨a,vs,h1,h2,h3⟩:=h
  exact⟨a,vs,h1,e.vK h2,aR.same e h3⟩
 | .dict _,_,h=>by unfold Den at h;exact h.elim
theorem aR.same {K:Jd}{H H':Hp}(e:aw H H'):∀{ds:List PyData} {vs:List V},aR K H ds vs->aR K H' ds vs
 | [],_,h=>by unfold aR at h ⊢;exact h
 | d::ds,_,h=>by
  unfold aR at h ⊢
  obtain⟨v,r,h1,h2,h3⟩:=h
  exact⟨v,r,h1,Den.same e h2,aR.same e h3⟩
end
mutual
theorem Den.reads {X:Cx}{pins:List (Addr×Obj)}{σ:St}{H:Hp}{s:Shared}(I:Inv X pins σ H s):∀{d:PyData} {v:V} {u:Value},Den X.K H d v->RelV v u->∃as,Reads s.heap u d as
 | .none,_,_,h,r=>by unfold Den at h;subst h;cases r;exact⟨_,.none⟩
 | .bool _,_,_,h,r=>by unfold Den at h;subst h;cases r;exact⟨_,.bool _⟩
 | .int _,_,_,h,r=>by unfold Den at h;subst h;obtain⟨t,rfl⟩:=r;exact⟨_,.int _ _⟩
 | .str _,_,_,h,r=>by unfold Den at h;subst h;obtain⟨t,rfl⟩:=r;exact⟨_,.str _ _⟩
 | .list ds,_,_,h,r=>by
  unfold Den at h
  obtain⟨a,vs,rfl,h2,h3⟩:=h
  cases r
  obtain⟨au,rv,⟨o,n,e1,e2,_,e4⟩,_⟩:=I.list h2
  obtain⟨as,q⟩:=aR.reads I h3 rv
  exact⟨_,.list e1 e2 e4 (by simpa using q)⟩
 | .tuple ds,_,_,h,r=>by
  unfold Den at h
  obtain⟨a,vs,rfl,h2,h3⟩:=h
  cases r
  obtain⟨au,rv,⟨o,e1,e2,n,e4⟩,_⟩:=I.tuple h2
  obtain⟨as,q⟩:=aR.reads I h3 rv
  exact⟨_,.tuple e1 e2 e4 (by simpa using q)⟩
 | .dict _,_,_,h,_=>by unfold Den at h;exact h.elim
theorem aR.reads {X:Cx}{pins:List (Addr×Obj)}{σ:St}{H:Hp}{s:Shared}(I:Inv X pins σ H s):∀{ds:List PyData} {vs:List V} {us:List Value},aR X.K H ds vs->Vals vs us->∃as,ReadsAll s.heap us ds as
 | [],_,_,h,r=>by unfold aR at h;subst h;cases r;exact⟨_,.nil⟩
 | d::ds,_,_,h,r=>by
  unfold aR at h
  obtain⟨v,q,rfl,h2,h3⟩:=h
  cases r with
  | cons r1 r2=>
   obtain⟨as,q1⟩:=Den.reads I h2 r1
   obtain⟨bs,q2⟩:=aR.reads I h3 r2
   exact⟨_,.cons q1 q2⟩
end
section
variable {X:Cx}
open PySem.SeqAt in
theorem yZ (hu:X.A.units+64<cLine):dC X (compareOp .Eq) (fun x y H Q=>∃d e,Den X.K H d x/\Den X.K H e y/\shaped d=true/\shaped e=true/\Q (.bl (PyData.eqv d e)) H):=by
 intro pins s σ H x y v u Q I rx ry h
 obtain⟨d,e,hd,he,sd,se,q⟩:=h
 obtain⟨as,r1⟩:=hd.reads I rx
 obtain⟨bs,r2⟩:=he.reads I ry
 exact eq_dataH r1 r2 sd se hu ⟨.bl _,H,I,rfl,q⟩
open PySem.SeqAt in
theorem yo (hu:X.A.units+64<cLine):dC X (compareOp .NotEq) (fun x y H Q=>∃d e,Den X.K H d x/\Den X.K H e y/\shaped d=true/\shaped e=true/\Q (.bl (!PyData.eqv d e)) H):=by
 intro pins s σ H x y v u Q I rx ry h
 obtain⟨d,e,hd,he,sd,se,q⟩:=h
 obtain⟨as,r1⟩:=hd.reads I rx
 obtain⟨bs,r2⟩:=he.reads I ry
 exact ne_dataH r1 r2 sd se hu ⟨.bl _,H,I,rfl,q⟩
theorem zz:dC X (compareOp .Is) (fun x y H Q=>∃a b,x = .bl a/\y = .bl b/\Q (.bl (decide (a=b))) H):=by
 intro pins s σ H x y v u Q I rx ry h
 obtain⟨a,b,rfl,rfl,q⟩:=h
 cases rx;cases ry
 refine wpAny_is_plain rfl (aL I q ?_)
 cases a<;>cases b<;>rfl
theorem rD:dC X (compareOp .IsNot) (fun x y H Q=>∃a b,x = .bl a/\y = .bl b/\Q (.bl (!decide (a=b))) H):=by
 intro pins s σ H x y v u Q I rx ry h
 obtain⟨a,b,rfl,rfl,q⟩:=h
 cases rx;cases ry
 refine wpAny_isNot_plain rfl (aL I q ?_)
 cases a<;>cases b<;>rfl
theorem tq:bN X (.builtin "isinstance") (fun xs H Q=>∃x T t b,xs=[x,.ty T]/\gO X.K H x t/\PySem.W.kitOne X.K t (.type T)=some b/\Q (.bl b) H):=by
 intro pins s σ H xs us Q I r h
 obtain⟨x,T,t,b,rfl,ty,e,q⟩:=h
 obtain⟨u,w',rfl,r1,r2⟩:=vals2 r
 cases r2
 exact rf I r1 ty e fun tk=>⟨.bl b,H,I.tok _,rfl,q⟩
theorem yt:u5 X (fun x lo hi H Q=>∃z,x = .str z/\z.length<=sizeLine/\Q (.str (Txt.slice z lo hi)) H):=by
 intro pins s σ H x v vl vu lo hi sl Q I rx hs pl pu q
 obtain⟨z,rfl,hz,q⟩:=q
 obtain⟨t,rfl⟩:=rx
 refine⟨"str",_,F.slot_str_getitem.lookup,typeIs_str _ _ _,?_⟩
 have fin:∀t' k,EP X pins σ Q (.str (Txt.slice z lo hi) t') { s with toks:=k }:=fun t' k=>⟨.str _,H,I.tok _,⟨_,rfl⟩,q⟩
 cases pl with
 | none=>
  cases pu with
  | none=>exact wpAny_getItem_str_slice (l:=none) (u:=none) (st:=none) hs rfl (post_val_or_str ⟨Jq (Txt.slice_le z _ _) hz,fin⟩)
  | int j uj=>exact wpAny_getItem_str_slice (l:=none) (u:=some (j,uj)) (st:=none) hs rfl (post_val_or_str ⟨Jq (Txt.slice_le z _ _) hz,fin⟩)
 | int i ui=>
  cases pu with
  | none=>exact wpAny_getItem_str_slice (l:=some (i,ui)) (u:=none) (st:=none) hs rfl (post_val_or_str ⟨Jq (Txt.slice_le z _ _) hz,fin⟩)
  | int j uj=>exact wpAny_getItem_str_slice (l:=some (i,ui)) (u:=some (j,uj)) (st:=none) hs rfl (post_val_or_str ⟨Jq (Txt.slice_le z _ _) hz,fin⟩)
end
section
variable {X:Cx}{pins:List (Addr×Obj)}{σ:St}{H:Hp}{s:Shared}{h':Heap}
theorem Inv.adopt {T:Addr}{o:HO}(I:Inv X pins σ H s)(hT:dB X pins H T)(hex:X.s₀.heap.objs.size<=T)(new:ba X.prog X.w (upd H T o) s.heap T o):Inv X pins σ (upd H T o) s:=
 ⟨I.ok,I.os,I.bare,⟨I.base.keep,I.base.slot,fun b ob e n hx=>by rw[aj (bU (Jm e) hex)];exact I.base.free b ob e n hx,I.base.there,
   fun b xs e=>by rw[aj (ai (I.base.fw b xs e) hT.1)];exact I.base.fw b xs e,fun b ob xs e=>by rw[aj (ai (I.base.dH b ob xs e) hT.1)];exact I.base.dH b ob xs e,
   fun b ps e=>by
    obtain⟨m,q⟩:=I.base.fR b ps e
    exact⟨m,by rw[aj (ai q hT.1)];exact q⟩⟩,
  I.loc,I.cell,by rw[aj (Ne.symm hT.2.1)];exact I.free,fun x c e=>by rw[aj (hT.2.2.2.2.1 x c e)];exact I.freeC x c e,
  fun p hp=>by
   refine ae.el (I.pin p hp) _ ?_
   rintro a b c d f
   exact⟨a,by rw[aj (hT.2.2.2.2.2 p hp)];exact b,c,d,f⟩,I.aN.adopt hT.1 new,I.len⟩
end
section
variable {X:Cx}
noncomputable def Cc:R2:=fun x y H Q=>(bV fun i j=>x = .int i/\y = .int j/\Q (.int (i+j)) H)∨(∃i j,x = .str i/\y = .str j/\i.length+j.length<=sizeLine/\Q (.str (i++j)) H)∨Cu x y H Q
theorem Bm:dC X (binaryOp .Add) Cc:=zY.or (nX.or yM)
noncomputable def AE:R2:=fun x y H Q=>(bV fun i j=>x = .int i/\y = .int j/\oS i j/\Q (.int (i*j)) H)∨AX x y H Q
theorem CG:dC X (binaryOp .Mult) AE:=ze.or y9
structure Fn (P:Program)(w:World)(K:Jd)(mg:Str->Option Value)(base:Heap)(k:Nat)(x:Str)(ps:List Str)(sp:Sp):Prop where
 ex:∃f fd,cf P w K mg base ir k f fd ps sp/\Binds K fd ps []/\PySem.W.keepIn K (.ref f)=true/\mg x=some (.ref f)
theorem Fn.mono {P:Program}{w:World}{K:Jd}{mg:Str->Option Value}{base:Heap}{j k:Nat}{x:Str}{ps:List Str}{sp:Sp}(F:Fn P w K mg base j x ps sp)(h:j<=k):Fn P w K mg base k x ps sp:=by
 refine ae.el (F.ex) _ ?_
 rintro f fd a b c d
 exact⟨f,fd,a.mono h,b,c,d⟩
theorem bp {k:Nat}{x:Str}{ps:List Str}{sp:Sp}{p pos:Pos}{e:Expr}{es:List Expr}{t:TA}(F:Fn X.prog X.w X.K X.mg X.base k x ps sp)(hr:du k X.A)(hg:Gl X x)
  (ha:PA X (e::es) t) (sH:(x==("__debug__" : Str))=false:=by decide) (he:starEach (e::es) X.env=(false,eval e X.env)::starEach es X.env:=by rfl) (kF:(backTo pos (starEach es X.env)).any (·.1)=false:=by rfl) :
  PE X (.Call (.Name x p) (e::es) [] pos) (xO sp [] E0 t):=by
 refine ae.el (F.ex) _ ?_
 rintro f fd a b c d
 exact vQ a hr hg d c b .nil Cd ha sH he kF
end
noncomputable def pL (pn sn:List (Str×NameKind))(N Fc:List Str)(js:List Nat):Bool:=
 sn.all (fun y=>y.2 != .cell)&&sn.all (fun y=>y.2 != .local||sn.lookup y.1==some .local)&&sn.all (fun y=>y.2 != .free||pn.lookup y.1==some .cell||pn.lookup y.1==some .free)&&js.length==Fc.length &&
 (Wh Fc.length).all fun k=>match Fc[k]?,js[k]? with
  | some x,some j=>sn.lookup x==some .free&&N[j]? == some x
  | _,_=>false
theorem aO {X:Cx}{scope:Scope}{Nc Fc:List Str}{js:List Nat}(hk:scope.kind = .function:=by rfl)(h:pL X.env.scope.names scope.names X.N Fc js=true:=by rfl):cS X scope Nc Fc js:=by
 unfold pL at h
 simp -iota only [Ye,List.all_eq_true,Bool.or_eq_true,bne_iff_ne,beq_iff_eq,ne_eq] at h
 obtain⟨⟨⟨⟨h1,h2⟩,h3⟩,h4⟩,h5⟩:=h
 refine⟨hk,h1,fun y hy hl=>(h2 y hy).resolve_left (fun z=>z hl),fun y hy hf =>?_,fun k x hx =>?_,h4⟩
 ·rcases h3 y hy with (z|z)|z
  ·exact absurd hf z
  ·exact .inl z
  ·exact .inr z
 ·have IW:k<Fc.length:=(Ju.mp hx).1
  have q:=h5 k (List.mem_range.mpr IW)
  have hj:k<js.length:=by omega
  rw[hx,Jf hj] at q
  simp only[Ye,beq_iff_eq] at q
  exact⟨q.1,_,Jf hj,q.2⟩
section
variable {X:Cx}
theorem Fp (hu:X.A.units+64<cLine):dC X (compareOp .Eq) (fun x y H Q=>EX x y H Q∨(∃d e,Den X.K H d x/\Den X.K H e y/\SeqAt.shaped d=true/\SeqAt.shaped e=true/\Q (.bl (PyData.eqv d e)) H)):=Bp.or (yZ hu)
theorem EI (hu:X.A.units+64<cLine):dC X (compareOp .NotEq) (fun x y H Q=>Eh x y H Q∨(∃d e,Den X.K H d x/\Den X.K H e y/\SeqAt.shaped d=true/\SeqAt.shaped e=true/\Q (.bl (!PyData.eqv d e)) H)):=Az.or (yo hu)
theorem Bj:dC X (compareOp .Is) (fun x y H Q=>(y = .non/\Q (.bl (decide (x = .non))) H)∨(∃a b,x = .bl a/\y = .bl b/\Q (.bl (decide (a=b))) H)):=zQ.or zz
theorem lR:dC X (compareOp .IsNot) (fun x y H Q=>(y = .non/\Q (.bl (!decide (x = .non))) H)∨(∃a b,x = .bl a/\y = .bl b/\Q (.bl (!decide (a=b))) H)):=vT.or rD
theorem A7:u5 X (fun x lo hi H Q=>zd X.K x lo hi H Q∨(∃z,x = .str z/\z.length<=sizeLine/\Q (.str (Txt.slice z lo hi)) H)):=wD.or yt
structure Nm (mg:Str->Option Value):Prop where
 n_len:mg "len" = none
 n_range:mg "range" = none
 n_max:mg "max" = none
 n_min:mg "min" = none
 n_sum:mg "sum" = none
 n_all:mg "all" = none
 n_any:mg "any" = none
 n_list:mg "list" = none
 n_tuple:mg "tuple" = none
 n_int:mg "int" = none
 n_str:mg "str" = none
 n_bool:mg "bool" = none
 n_zip:mg "zip" = none
 n_enumerate:mg "enumerate" = none
 n_isinstance:mg "isinstance" = none
 n_divmod:mg "divmod" = none
end
theorem bA {J:It}{n:Nat}{js:List Nat}{g:TG}{tc:TT}{te:TE}{σ:St}{H1:Hp}{fin:List V->Hp->Prop}(N:Nat)(Pv:Nat->List V->Hp->Prop)(h0:Pv 0 [] H1)
  (go:∀i ys H (Nx:List V->Hp->Prop),i<N->Pv i ys H->(∀ys' H',Pv (i+1) ys' H'->Nx ys' H')->J.go i H/\ys.length<sizeLine /\
   ∀x H',J.yld i H x H'->g x (Jt n none++cq σ js) H' fun σ2 H2=>tc σ2 H2 fun b H3=>if b=true then te σ2 H3 fun y H4=>Nx (ys++[y]) H4 else Nx ys H3)
  (stop:∀ys H,Pv N ys H->J.stop N H/\fin ys H):pS J n js g tc te σ H1 fin:=by
 refine⟨fun i m ys H=>m=N-i/\i<=N/\Pv i ys H,⟨N,by simp,Um _,h0⟩,?_⟩
 intro i m ys H
 refine ae.go ?_
 rintro rfl hi p
 by_cases bP:i<N
 ·exact .inr (go i ys H (fun ys' H'=>∃m',m'<N-i/\(m'=N-(i+1)/\i+1<=N/\Pv (i+1) ys' H')) bP p fun ys' H' q=>⟨_,by omega,rfl,bP,q⟩)
 ·have e:i=N:=by omega
  subst e
  exact .inl (stop ys H p)
section
variable {X:Cx}(K:Jd)
theorem Ar (hK:X.K=K:=by rfl):vd X (Hw K):=by subst hK;exact ym
theorem Ii (hK:X.K=K:=by rfl):u5 X (fun x lo hi H Q=>zd K x lo hi H Q∨(∃z,x = .str z/\z.length<=sizeLine/\Q (.str (Txt.slice z lo hi)) H)):=by subst hK;exact A7
theorem dP (hK:X.K=K:=by rfl):bN X (.builtin "len") (fun xs H Q=>∃x n,xs=[x]/\yL K x H n/\Q (.int n) H):=by subst hK;exact tF
theorem CH (hK:X.K=K:=by rfl):yh X "str.join" (fun x vs H Q=>∃(sep:Str) (p:Addr) (xs:List Str),x = .str sep/\vs=[.ref p]/\aB K H p (xs.map V.str)/\(xs.map (·.length)).sum+xs.length*sep.length<=16777216/\Q (.str (Txt.join sep xs)) H):=by subst hK;exact wV
theorem iz {tg l:Expr}{tl:TE}(hl:PE X l tl)(hK:X.K=K:=by rfl):PI X tg l (xy K tl):=by subst hK;exact xa hl
theorem tupK {pos:Pos}{es:List Expr}{k:Nat}{t:qP}(n:Nat)(hc:X.calm=true)(h:Bn X es t)(hn:(assignEach es X.env).length=n:=by rfl)(gc:(assignEach es X.env).findIdx? (·.1)=none:=by rfl)(hK:X.K=K:=by rfl):PG X (.Tuple es k pos) (zy K n t):=by subst hK;exact ya hc h hn gc
theorem rA {o e:Expr}{es:List Expr}{to:TE}{t:TA}{name:Str}{apos eS:Pos}{T id:String}{r:V->List V->Hp->VK->Prop}(pa:PlainAttrs T)(slot:Slot T name id)(yq:typeOf (.builtin id)=pure (.type "method_descriptor"))(hm:yh X id r)(ho:PE X o to)(ha:PA X (e::es) t)
  (i8:attributeBase o name X.env (eval o X.env)=eval o X.env:=by rfl)
  (yk:((backTo eS (starEach (e::es) X.env)).all (fun x => !x.1)&&(backToKw eS (keywordEach [] X.env)).all (fun x=>x.1.isSome)
   && decide ((e::es).length+([]:List Keyword).length+(if ([]:List Keyword).isEmpty then 0 else 1)<30))=true:=by rfl)
  (jD:(apos.endLine==eS.line)=true:=by rfl) (hs:starEach (e::es) X.env=(false,eval e X.env)::starEach es X.env:=by rfl) (ox:(backTo eS (starEach es X.env)).any (·.1)=false:=by rfl) (hK:X.K=K:=by rfl) :
  PE X (.Call (.Attribute o name apos) (e::es) [] eS) (HS K T r to t):=by subst hK;exact AF pa slot yq hm ho ha i8 yk jD hs ox
theorem D7 {o:Expr}{to:TE}{name:Str}{apos eS:Pos}{T id:String}{r:V->List V->Hp->VK->Prop}(pa:PlainAttrs T)(slot:Slot T name id)(yq:typeOf (.builtin id)=pure (.type "method_descriptor"))(hm:yh X id r)(ho:PE X o to)
  (i8:attributeBase o name X.env (eval o X.env)=eval o X.env:=by rfl) (jD:(apos.endLine==eS.line)=true:=by rfl) (hK:X.K=K:=by rfl):PE X (.Call (.Attribute o name apos) [] [] eS) (BG K T r to):=by subst hK;exact zN pa slot yq hm ho i8 jD
theorem Am (hu:X.A.units+64<cLine)(hK:X.K=K:=by rfl):dC X (compareOp .Eq) (fun x y H Q=>EX x y H Q∨(∃d e,Den K H d x/\Den K H e y/\SeqAt.shaped d=true/\SeqAt.shaped e=true/\Q (.bl (PyData.eqv d e)) H)):=by subst hK;exact Fp hu
theorem rS (hu:X.A.units+64<cLine)(hK:X.K=K:=by rfl):dC X (compareOp .NotEq) (fun x y H Q=>Eh x y H Q∨(∃d e,Den K H d x/\Den K H e y/\SeqAt.shaped d=true/\SeqAt.shaped e=true/\Q (.bl (!PyData.eqv d e)) H)):=by subst hK;exact EI hu
end
noncomputable abbrev Keeps (g h:Heap)(c:Addr->Prop):Prop:=∀b o,¬c b->g.get? b=some o->h.get? b=some o
structure uH (prog:Program)(w:World)(A:Around)(it S:Addr)(T:String)(fp:Addr->Prop)(n:Nat)(P:Nat->Value->Heap->Prop)(R:Value->Value->Prop)(St:Nat->Heap->Prop):Prop where
 sfp:¬fp S
 ne:it≠S
 ty:∀i h,St i h->∃o,h.get? it=some o/\o.cls = .type T
 self:∀(s:Shared) (Q:Value->Shared->Prop) (E:Value->Shared->Prop),St 0 s.heap->Q (.ref it) s->wpAny (model prog w) A (pyIter (.ref it)) Q E s
 item:∀i (s:Shared) (Q:Option Value->Shared->Prop) (E:Value->Shared->Prop),i<n->St i s.heap->S<s.heap.objs.size ->
  (∀v h' tk,Keeps s.heap h' fp->St (i+1) h'->P i v h'->(∀j u,P j u s.heap->R u v)->Q (some v) { s with heap:=h',toks:=tk })->wpAny (model prog w) A (pyNext (.ref it)) Q E s
 stop:∀(s:Shared) (Q:Option Value->Shared->Prop) (E:Value->Shared->Prop),St n s.heap->S<s.heap.objs.size->(∀h' tk,Keeps s.heap h' fp->Q none { s with heap:=h',toks:=tk })->wpAny (model prog w) A (pyNext (.ref it)) Q E s
 keepS:∀i h h',St i h->Keeps h h' (· = S)->St i h'
 keepP:∀j v h h',P j v h->Keeps h h' (fun b=>fp b∨b=S)->P j v h'
 nolen:typeLookup (.type T) "__len__" = pure none
 nohint:typeLookup (.type T) "__length_hint__" = pure none
 nl:(Value.type T==Value.type "list")=false
 nt:(Value.type T==Value.type "tuple")=false
structure mR (h:Heap)(S:Addr)(i:Nat)(P:Nat->Value->Heap->Prop)(R:Value->Value->Prop)(acc:Array Value)(c:Nat):Prop where
 ob:h.get? S=some { cls := .type "list",data := .seq acc c }
 sz:acc.size=i
 pw:acc.toList.Pairwise R
 all:∀(j:Nat) v,acc[j]? = some v->P j v h
noncomputable abbrev oM (prog:Program)(w:World)(A:Around)(R:Result->Shared->Prop):Fin->Shared->Prop:=fun fin s'=>match fin with
 | .done f=>R (.ok f) s'
 | .again c'=>c'.quiet=true/\codeAny (model prog w) A c' R s'
section
variable {prog:Program}{w:World}{A:Around}{it S:Addr}{T:String}{fp:Addr->Prop}{n:Nat}{P:Nat->Value->Heap->Prop}{R:Value->Value->Prop}{St:Nat->Heap->Prop}
noncomputable abbrev iP (g:Heap)(S:Addr)(fp:Addr->Prop)(n:Nat)(P:Nat->Value->Heap->Prop)(R:Value->Value->Prop)(s:Shared)(Z:Shared->Prop):Prop:=
 ∀h' tk acc c,Keeps g h' (fun b=>fp b∨b=S)->mR h' S n P R acc c->Z { s with heap:=h',toks:=tk }
theorem kr (Fd:uH prog w A.in1 it S T fp n P R St)(hn:n<=sizeLine){s:Shared}{Z:Result->Shared->Prop}{res:Value}{g:Heap}(fin:iP g S fp n P R s (Z (.ok (.ret res)))):
  ∀(k i:Nat) (h:Heap) (tk:Nat) (acc:Array Value) (c:Nat),i+k=n->St i h->mR h S i P R acc c->Keeps g h (fun b=>fp b∨b=S) ->
   codeAny (model prog w) A (.builtin "list.extend.loop" ⟨[.ref S,.ref it,res],[]⟩) Z { s with heap:=h,toks:=tk }
 | 0,i,h,tk,acc,c,hk,gc,G,kp=>by
  have e:i=n:=by omega
  subst e
  refine codeAny_builtin PySem.F.entry_extend_loop ?_
  rw[Around.under_plainId PySem.F.plain_extend_loop _]
  refine wpAny_bind (Fd.stop { s with heap:=h,toks:=tk } _ _ gc (Jm G.ob) fun h' tk' k'=>wpAny_pure ?_)
  exact fin h' tk' acc c (fun b o nb q=>k' b o (fun z=>nb (.inl z)) (kp b o nb q)) ⟨k' _ _ Fd.sfp G.ob,G.sz,G.pw,fun j v e=>Fd.keepP _ _ _ _ (G.all j v e) fun b o nb q=>k' b o (fun z=>nb (.inl z)) q⟩
 | k+1,i,h,tk,acc,c,hk,gc,G,kp=>by
  refine codeAny_builtin PySem.F.entry_extend_loop ?_
  rw[Around.under_plainId PySem.F.plain_extend_loop _]
  refine wpAny_bind (Fd.item i { s with heap:=h,toks:=tk } _ _ (by omega) gc (Jm G.ob) fun v h' tk' k' av pv rv =>?_)
  have yV:=k' _ _ Fd.sfp G.ob
  have other:Keeps h' (h'.update S (Obj.mapSeq (·.push v))) (· = S):=fun b o nb q=>(Uj _ _ (Ne.symm nb)).trans q
  have k2:Keeps h (h'.update S (Obj.mapSeq (·.push v))) (fun b=>fp b∨b=S):=fun b o nb q=>other b o (fun z=>nb (.inr z)) (k' b o (fun z=>nb (.inl z)) q)
  have sz:=G.sz
  refine wpAny_bind (wpAny_updateSeq yV rfl (wpAny_pure ⟨plainId_quiet PySem.F.plain_extend_loop _,?_⟩) (by rw[sz];omega) (by show(acc.push v).size<=sizeLine+1;rw[Wa,sz];omega))
  refine kr Fd hn fin k (i+1) _ tk' (acc.push v) _ (by omega) (Fd.keepS _ _ _ av other) ⟨Us _ yV rfl,by rw[Wa,sz],?_,fun j u e =>?_⟩ (fun b o nb q=>k2 b o nb (kp b o nb q))
  ·rw[U9]
   refine J9.mpr ⟨G.pw,List.pairwise_singleton _ _,fun a ha b hb =>?_⟩
   obtain⟨j,hj⟩:=U2.mp ha
   rw[Jb.mp hb]
   exact rv j a (G.all j a (by simpa using hj))
  ·by_cases hj:j<i
   ·rw[Array.getElem?_push_lt (by omega)] at e
    exact Fd.keepP _ _ _ _ (G.all j u (by rw[J8 (by omega)];exact e)) k2
   ·have pV:j=i:=by
     have:=(Array.getElem?_eq_some_iff.mp e).1
     rw[Wa] at this
     omega
    subst pV
    have e':(acc.push v)[acc.size]? = some u:=by rw[sz];exact e
    rw[Array.getElem?_push_size] at e'
    cases e'
    exact Fd.keepP _ _ _ _ pv fun b o nb q=>other b o (fun z=>nb (.inr z)) q
theorem nO (Fd:uH prog w A.in1 it S T fp n P R St)(hn:n<=sizeLine){s:Shared}{Z:Result->Shared->Prop}{res:Value}{c₀:Nat}(gc:St 0 s.heap)(hS:s.heap.get? S=some { cls := .type "list",data := .seq #[] c₀ })
  (fin:iP s.heap S fp n P R s (Z (.ok (.ret res)))) :
  wpAny (model prog w) A.in1 (Builtin.List.listExtendWith (.ref S) (.ref it) res) (oM prog w A Z) (fun e s'=>Z (.error e) s') s:=by
 have go:∀(h:Heap) (c tk:Nat),Keeps s.heap h (· = S)->h.get? S=some { cls := .type "list",data := .seq #[] c } -> codeAny (model prog w) A (.builtin "list.extend.loop" ⟨[.ref S,.ref it,res],[]⟩) Z { s with heap:=h,toks:=tk }:=
  fun h c tk k o=>kr Fd hn fin n 0 h tk #[] c (by omega) (Fd.keepS _ _ _ gc k) ⟨o,rfl,.nil,fun j v e=>by simp at e⟩ fun b o nb q=>k b o (fun z=>nb (.inr z)) q
 obtain⟨oi,hoi,BX⟩:=Fd.ty 0 _ gc
 have hT:s.TypeIs (.ref it) T:=⟨oi,hoi,BX⟩
 have u3:Builtin.List.listSameRef (.ref S) (.ref it)=false:=by simp[Builtin.List.listSameRef,Ne.symm Fd.ne]
 unfold Builtin.List.listExtendWith
 refine wpAny_bind (wpAny_typeOf hT ?_)
 simp only[u3,Fd.nl,Fd.nt,Bool.or_false,J6,if_false]
 refine wpAny_bind (Fd.self s _ _ gc ?_)
 have hint:∀(Q:Bool->Shared->Prop),Q true s->wpAny (model prog w) A.in1 (Builtin.List.listLengthHint (.ref it)) Q (fun e s'=>Z (.error e) s') s:=fun Q q=>by
  unfold Builtin.List.listLengthHint
  refine wpAny_bind (wpAny_specialOf hT Fd.nolen ?_)
  refine wpAny_ite_split (fun z=>absurd z (by decide)) fun _=>wpAny_ite_split (fun z=>absurd z (by decide)) fun _ =>?_
  exact wpAny_bind (wpAny_specialOf hT Fd.nohint (wpAny_pure q))
 refine wpAny_bind (wpAny_holding (hint _ ?_))
 refine wpAny_ite_split (fun _ =>?_) fun _=>wpAny_pure ⟨plainId_quiet PySem.F.plain_extend_loop _,go _ c₀ _ (fun _ _ _ q=>q) hS⟩
 refine wpAny_bind (wpAny_rule (wpAny_bind ?_))
 have o1:=Us (Obj.mapSeq (·.push Value.none)) hS rfl
 have o2:=Us (Obj.mapSeq (·.pop)) o1 rfl
 refine wpAny_bind (wpAny_updateSeq hS rfl (wpAny_updateSeq (hz:=by seq_fits) o1 rfl (wpAny_pure ⟨plainId_quiet PySem.F.plain_extend_loop _,go _ _ _ (fun b o nb q =>?_) o2⟩)))
 exact(Uj _ _ (Ne.symm nb)).trans ((Uj _ _ (Ne.symm nb)).trans q)
theorem qI (Fd:uH prog w A.in1 it S T fp n P R St)(hn:n<=sizeLine){s:Shared}{Z:Result->Shared->Prop}(gc:St 0 s.heap)(hS:s.heap.get? S=some { cls := .type "list",data := .seq #[] })
  (fin:iP s.heap S fp n P R s (Z (.ok (.ret .none)))) :
  wpAny (model prog w) A.in1 (Builtin.«list.__init__» ⟨[.ref S,.ref it],[]⟩) (oM prog w A Z) (fun e s'=>Z (.error e) s') s:=by
 refine wpAny_bind ?_
 unfold Builtin.List.listItems
 refine wpAny_bind (wpAny_seqItems hS rfl (wpAny_pure ?_))
 have o1:=Us (Obj.mapSeq (fun _=>(#[]:Array Value))) hS rfl
 have k1:Keeps s.heap (s.heap.update S (Obj.mapSeq (fun _=>(#[]:Array Value)))) (· = S):=fun b o nb q=>(Uj _ _ (Ne.symm nb)).trans q
 refine wpAny_bind (wpAny_updateSeq hS rfl (wpAny_bind (wpAny_letGo ?_)))
 refine nO (s:={ s with heap:=_ }) Fd hn (Fd.keepS _ _ _ gc k1) o1 fun h' tk acc c k G =>?_
 exact fin h' tk acc c (fun b o nb q=>k b o nb (k1 b o (fun z=>nb (.inr z)) q)) G
theorem rj {s:Shared}{Q:Value->Shared->Prop}{E:Value->Shared->Prop}(Fd:uH prog w A.in1.in1 it s.heap.objs.size T fp n P R St)(hn:n<=sizeLine)(gc:∀o,St 0 (s.heap.push o))
  (fin:∀h' tk acc c,Keeps s.heap h' fp->mR h' s.heap.objs.size n P R acc c->Q (.ref s.heap.objs.size) { s with heap:=h',toks:=tk }) :
  wpAny (model prog w) A (call (.type "list") [.ref it]) Q E s:=by
 refine callType_codes (Q₁:=fun obj s₁=>obj = .ref s.heap.objs.size/\s₁={ s with heap:=s.heap.push { cls := .type "list",data := .seq #[] } }) F.called_list (F.typeCall_list_1 _) F.entry_list_init
  (code_list_new _ ⟨rfl,rfl⟩) fun obj s₁ h₁ =>?_
 obtain⟨rfl,rfl⟩:=h₁
 have hS:(s.heap.push { cls := .type "list",data := .seq #[] }).get? s.heap.objs.size=some { cls := .type "list",data := .seq #[] }:=Js _ rfl
 refine⟨⟨_,hS,rfl⟩,F.args_list_init_2 _ _,qI (s:={ s with heap:=_ }) (A:=A.in1) Fd hn (gc _) hS fun h' tk acc c k G=>⟨rfl,fin h' tk acc c (fun b o nb q =>?_) G⟩⟩
 exact k b o (fun z=>z.elim nb fun z=>bU (Jm q) (Je _) z) (Jc _ q)
end
noncomputable abbrev iq (h:Heap)(z TI TO a:Addr)(f:Bool):Prop:=
 h.get? z=some { cls := .type "zip",dict:=none,data := .fields #[rawInt a,.bool f,.bool false,.ref TI,.ref TO],slots := #[] }
section
variable {prog:Program}{w:World}{A:Around}{E:Value->Shared->Prop}{s:Shared}{z TI TO i1 i2 l1 l2 a:Addr}{f:Bool}{oa:Obj}
theorem nc {Q:Bool->Shared->Prop}(hz:iq s.heap z TI TO a f)(ha:s.heap.get? a=some oa)
  (q:∀h,iq h z TI TO a true->Yd z s.heap h->Q false { s with heap:=h }):wpAny (model prog w) A (Builtin.SmallTypes.ownedTupleIsFree (.ref z)) Q E s:=by
 unfold Builtin.SmallTypes.ownedTupleIsFree
 refine wpAny_bind (wpAny_field hz rfl (x:=rawInt a) rfl ?_)
 show wpAny _ _ (loadIfAlive ((a:Int).toNat) >>= _) _ _ _
 rw[Uz]
 refine wpAny_bind (PySem.W.kdx_alive ha ?_)
 simp -iota only [Option.isNone_some,J6,if_false]
 refine wpAny_bind (wpAny_field hz rfl (x := .bool f) rfl ?_)
 cases f
 ·exact wpAny_bind (wpAny_setField_rec hz (by simp) fun h e k=>wpAny_pure (q h e k))
 ·exact wpAny_pure (q s.heap hz (Yd.refl _ _))
theorem kX {k:Nat}{xs ys:Array Value}{x y:Value}{Q:Option Value->Shared->Prop}(D:ZipApart z TI TO i1 i2 l1 l2)(hz:iq s.heap z TI TO a f)(ha:s.heap.get? a=some oa)(BO:IsPair s.heap TI (.ref i1) (.ref i2))
  (h1:s.heap.IsListIter i1 l1 k) (h2:s.heap.IsListIter i2 l2 k) (De:s.heap.IsList l1 xs) (zV:s.heap.IsList l2 ys) (hx:xs[k]? = some x) (hy:ys[k]? = some y)
  (q:∀h',iq h' z TI TO a true->h'.IsListIter i1 l1 (k+1)->h'.IsListIter i2 l2 (k+1)->IsPair h' s.heap.objs.size x y->Keeps s.heap h' (fun b=>b=z∨b=i1∨b=i2)->Q (some (.ref s.heap.objs.size)) { s with heap:=h' }) :
  wpAny (model prog w) A (pyNext (.ref z)) Q E s:=by
 have hT:s.TypeIs (.ref z) "zip":=⟨_,hz,rfl⟩
 unfold pyNext
 refine wpAny_bind (wpAny_attempt (wpAny_callSpecial?_slot (name:=Str.ofString "__next__") hT F.slot_zip_next (wpAny_call_entry F.slot_zip_next hT F.entry_zip_next ?_ (F.args_zip_next_1 _))))
 change wpAny _ _ (Bind.bind (field (.ref z) 2) _) _ _ _
 refine wpAny_bind (wpAny_field hz rfl (x := .bool false) rfl ?_)
 change wpAny _ _ (Bind.bind (field (.ref z) 3) _) _ _ _
 refine wpAny_bind (wpAny_field hz rfl (x := .ref TI) rfl (wpAny_bind (wpAny_seqItems BO rfl ?_)))
 change wpAny _ _ (Bind.bind (Builtin.SmallTypes.ownedTupleIsFree (.ref z)) _) _ _ _
 refine wpAny_bind (nc hz ha fun h0 z0 k0 =>?_)
 simp -iota only [J6,if_false,<-Array.forIn_toList,List.forIn_cons,List.forIn_nil]
 refine wpAny_bind (wpAny_bind (wpAny_bind (wpAny_holding (wpAny_bind (wpAny_nextOf_list_item (h1.extBut k0.extBut D.i1z) (De.extBut k0.extBut D.l1z) hx fun h4 e4 k4=>wpAny_pure (wpAny_pure ?_))))))
 refine wpAny_bind (wpAny_bind (wpAny_holding (wpAny_bind (wpAny_nextOf_list_item ((h2.extBut k0.extBut D.i2z).extBut k4.extBut D.i12.symm) ((zV.extBut k0.extBut D.l2z).extBut k4.extBut D.l2i1) hy fun h5 e5 k5=>wpAny_pure (wpAny_pure (wpAny_pure ?_))))))
 refine wpAny_bind (wpAny_newTuple (hsz:=by show 2<=sizeLine;decide) (wpAny_pure ⟨_,rfl,wpAny_pure ?_⟩))
 have hsz:h5.objs.size=s.heap.objs.size:=by rw[k5.1,k4.1,k0.1]
 show Q (some (.ref h5.objs.size)) _
 rw[hsz]
 refine q (h5.push { cls := .type "tuple",data := .seq #[x,y] }) (Jc _ (k5.extBut _ _ D.i2z.symm (k4.extBut _ _ D.i1z.symm z0))) ((e4.extBut k5.extBut D.i12).at fun o e=>Jc _ e) (e5.at fun o e=>Jc _ e) (by rw[<-hsz];exact Js _ rfl) fun b o nb e =>?_
 exact Jc _ (k5.extBut _ _ (fun z=>nb (.inr (.inr z))) (k4.extBut _ _ (fun z=>nb (.inr (.inl z))) (k0.extBut _ _ (fun z=>nb (.inl z)) e)))
theorem lF {k:Nat}{xs ys:Array Value}{Q:Option Value->Shared->Prop}(hh:A.handled=none)(D:ZipApart z TI TO i1 i2 l1 l2)(hz:iq s.heap z TI TO a f)(ha:s.heap.get? a=some oa)(BO:IsPair s.heap TI (.ref i1) (.ref i2))
  (h1:s.heap.IsListIter i1 l1 k) (h2:s.heap.IsListIter i2 l2 k) (De:s.heap.IsList l1 xs) (zV:s.heap.IsList l2 ys) (he:xs[k]? = none∨ys[k]? = none)
  (q:∀h',Keeps s.heap h' (fun b=>b=z∨b=i1∨b=i2)->Q none { s with heap:=h' }) :
  wpAny (model prog w) A (pyNext (.ref z)) Q E s:=by
 have hT:s.TypeIs (.ref z) "zip":=⟨_,hz,rfl⟩
 unfold pyNext
 refine wpAny_bind (wpAny_attempt (wpAny_callSpecial?_slot (name:=Str.ofString "__next__") hT F.slot_zip_next (wpAny_call_entry F.slot_zip_next hT F.entry_zip_next ?_ (F.args_zip_next_1 _))))
 change wpAny _ _ (Bind.bind (field (.ref z) 2) _) _ _ _
 refine wpAny_bind (wpAny_field hz rfl (x := .bool false) rfl ?_)
 change wpAny _ _ (Bind.bind (field (.ref z) 3) _) _ _ _
 refine wpAny_bind (wpAny_field hz rfl (x := .ref TI) rfl (wpAny_bind (wpAny_seqItems BO rfl ?_)))
 change wpAny _ _ (Bind.bind (Builtin.SmallTypes.ownedTupleIsFree (.ref z)) _) _ _ _
 refine wpAny_bind (nc hz ha fun h0 z0 k0 =>?_)
 simp -iota only [J6,if_false,<-Array.forIn_toList,List.forIn_cons,List.forIn_nil]
 refine wpAny_bind (wpAny_bind (wpAny_bind (wpAny_holding ?_)))
 cases hx:xs[k]? with
 | none=>
  refine wpAny_bind (wpAny_nextOf_list_end hh (h1.extBut k0.extBut D.i1z) (De.extBut k0.extBut D.l1z) hx fun h4 e k4 oe =>?_)
  refine ae.el (oe) _ ?_
  rintro o ho hc
  exact wpAny_bind (wpAny_isInstance (T := "StopIteration") (b:=true) ⟨o,ho,hc⟩ isSubtype_stop (wpAny_pure (q h4 fun b o nb x=>k4 _ _ (fun z=>nb (.inr (.inl z))) (k0.extBut _ _ (fun z=>nb (.inl z)) x))))
 | some x=>
  have hy:ys[k]? = none:=he.resolve_left (by rw[hx];exact fun z=>nomatch z)
  refine wpAny_bind (wpAny_nextOf_list_item (h1.extBut k0.extBut D.i1z) (De.extBut k0.extBut D.l1z) hx fun h4 e4 k4=>wpAny_pure (wpAny_pure ?_))
  refine wpAny_bind (wpAny_bind (wpAny_holding (wpAny_bind (wpAny_nextOf_list_end hh ((h2.extBut k0.extBut D.i2z).extBut k4.extBut D.i12.symm) ((zV.extBut k0.extBut D.l2z).extBut k4.extBut D.l2i1) hy fun h5 e k5 oe =>?_))))
  refine ae.el (oe) _ ?_
  rintro o ho hc
  exact wpAny_bind (wpAny_isInstance (T := "StopIteration") (b:=true) ⟨o,ho,hc⟩ isSubtype_stop (wpAny_pure (q h5 fun b o nb x=>k5 _ _ (fun z=>nb (.inr (.inr z))) (k4.extBut _ _ (fun z=>nb (.inr (.inl z))) (k0.extBut _ _ (fun z=>nb (.inl z)) x)))))
end
structure mQ (z TI TO i1 i2 l1 l2 S:Addr)(xs ys:Array Value)(i:Nat)(h:Heap):Prop where
 ti:IsPair h TI (.ref i1) (.ref i2)
 to:∃a b,IsPair h TO a b
 it1:h.IsListIter i1 l1 i
 it2:h.IsListIter i2 l2 i
 a1:h.IsList l1 xs
 a2:h.IsList l2 ys
 zp:IsZip h z TI TO .none∨0<i/\∃a f oa,iq h z TI TO a f/\h.get? a=some oa/\S<a
noncomputable abbrev sL (z TO i1 i2:Addr)(b:Addr):Prop:=b=z∨b=TO∨b=i1∨b=i2
noncomputable abbrev pU (S:Addr)(xs ys:Array Value)(j:Nat)(v:Value)(h:Heap):Prop:=dR fun a x y=>v = .ref a/\S<a/\xs[j]? = some x/\ys[j]? = some y/\IsPair h a x y
noncomputable abbrev sM (u v:Value):Prop:=∃a b:Addr,u = .ref a/\v = .ref b/\a<b
theorem ur {prog:Program}{w:World}{A:Around}{z TI TO i1 i2 l1 l2 S:Addr}{xs ys:Array Value}(hh:A.handled=none)(D:ZipApart z TI TO i1 i2 l1 l2)(b1:z<S)(b2:TI<S)(b3:TO<S)(b4:i1<S)(b5:i2<S)(b6:l1<S)(b7:l2<S):
  uH prog w A z S "zip" (sL z TO i1 i2) (min xs.size ys.size) (pU S xs ys) sM (mQ z TI TO i1 i2 l1 l2 S xs ys) where
 sfp:=fun q=>by
  rcases q with q|q|q|q<;>(rw[q] at b1 b3 b4 b5;first|exact absurd b1 (U6 _)|exact absurd b3 (U6 _)|exact absurd b4 (U6 _)|exact absurd b5 (U6 _))
 ne:=J5 b1
 ty:=fun i h st=>by
  rcases st.zp with q|⟨_,a,f,oa,q,_⟩
  ·exact⟨_,q,rfl⟩
  ·exact⟨_,q,rfl⟩
 self:=fun s Q E st q=>by
  rcases st.zp with r|⟨r,_⟩
  ·exact wpAny_pyIter_zip r q
  ·exact absurd r (U6 _)
 item:=fun i s Q E hi st hS q=>by
  obtain⟨ti,⟨a,b,to⟩,it1,it2,a1,a2,zp⟩:=st
  have hx:xs[i]? = some (xs[i]'(by omega)):=J8 (by omega)
  have hy:ys[i]? = some (ys[i]'(by omega)):=J8 (by omega)
  have old:∀j u,pU S xs ys j u s.heap->sM u (.ref s.heap.objs.size):=fun j u hz_=>ae.el hz_ _ fun a x y e _ _ _ p=>⟨a,_,e,rfl,Jm p⟩
  rcases zp with r|⟨yO,c,f,oc,r,oc',hc⟩
  ·refine wpAny_pyNext_zip_item D r ti to it1 it2 a1 a2 hx hy fun h' r1 r2 r3 r4 r5 r6 r7 =>?_
   have kp:Keeps s.heap h' (sL z TO i1 i2):=fun b o nb e=>r7 b o (fun z=>nb (.inl z)) (fun z=>nb (.inr (.inl z))) (fun z=>nb (.inr (.inr (.inl z)))) (fun z=>nb (.inr (.inr (.inr z)))) e
   refine q _ h' s.toks kp ⟨r7 _ _ D.TIz D.TITO D.TIi1 D.TIi2 ti,⟨_,_,r2⟩,r3,r4,a1.at fun o e=>r7 _ _ D.l1z D.l1TO D.l1i1 D.l1i2 e,a2.at fun o e=>r7 _ _ D.l2z D.l2TO D.l2i1 D.l2i2 e,.inr ⟨Nat.succ_pos _,_,_,_,r1,r5,hS⟩⟩ ⟨_,_,_,rfl,hS,hx,hy,r5⟩ old
  ·have ne:∀{b:Addr},b<S->c≠b:=fun hb=>Wb (Nat.lt_trans hb hc)
   refine kX D r oc' ti it1 it2 a1 a2 hx hy fun h' r1 r2 r3 r4 r5 =>?_
   have kp:Keeps s.heap h' (sL z TO i1 i2):=fun b o nb e=>r5 b o (fun z=>z.elim (fun z=>nb (.inl z)) fun z=>nb (.inr (.inr z))) e
   refine q _ h' s.toks kp ⟨r5 _ _ (fun z=>z.elim D.TIz fun z=>z.elim D.TIi1 D.TIi2) ti,⟨_,_,r5 _ _ (fun z=>z.elim D.TOz fun z=>z.elim D.TOi1 D.TOi2) to⟩,r2,r3,a1.at fun o e=>r5 _ _ (fun z=>z.elim D.l1z fun z=>z.elim D.l1i1 D.l1i2) e,a2.at fun o e=>r5 _ _ (fun z=>z.elim D.l2z fun z=>z.elim D.l2i1 D.l2i2) e,
    .inr ⟨Nat.succ_pos _,_,_,_,r1,r5 _ _ (fun z=>z.elim (ne b1) fun z=>z.elim (ne b4) (ne b5)) oc',hc⟩⟩ ⟨_,_,_,rfl,hS,hx,hy,r4⟩ old
 stop:=fun s Q E st hS q=>by
  obtain⟨ti,⟨a,b,to⟩,it1,it2,a1,a2,zp⟩:=st
  have he:xs[min xs.size ys.size]? = none∨ys[min xs.size ys.size]? = none:=by
   rcases Nat.le_total xs.size ys.size with h|h
   ·exact .inl (Yf (by omega))
   ·exact .inr (Yf (by omega))
  rcases zp with r|⟨yO,c,f,oc,r,oc',hc⟩
  ·exact wpAny_pyNext_zip_end hh D r ti to it1 it2 a1 a2 he fun h' k=>q h' s.toks fun b o nb e=>k b o (fun z=>nb (.inl z)) (fun z=>nb (.inr (.inl z))) (fun z=>nb (.inr (.inr (.inl z)))) (fun z=>nb (.inr (.inr (.inr z)))) e
  ·exact lF hh D r oc' ti it1 it2 a1 a2 he fun h' k=>q h' s.toks fun b o nb e=>k b o (fun z=>z.elim (fun z=>nb (.inl z)) fun z=>nb (.inr (.inr z))) e
 keepS:=fun i h h' st k=>by
  obtain⟨ti,⟨a,b,to⟩,it1,it2,a1,a2,zp⟩:=st
  refine⟨k _ _ (J5 b2) ti,⟨a,b,k _ _ (J5 b3) to⟩,it1.at fun o e=>k _ o (J5 b4) e,it2.at fun o e=>k _ o (J5 b5) e,a1.at fun o e=>k _ o (J5 b6) e,a2.at fun o e=>k _ o (J5 b7) e,?_⟩
  rcases zp with r|⟨yO,c,f,oc,r,oc',hc⟩
  ·exact .inl (k _ _ (J5 b1) r)
  ·exact .inr ⟨yO,c,f,oc,k _ _ (J5 b1) r,k _ _ (Wb hc) oc',hc⟩
 keepP:=fun j v h h' ⟨a,x,y,e,ha,h1,h2,p⟩ k=>by
  have ne:∀{b:Addr},b<S->a≠b:=fun hb=>Wb (Nat.lt_trans hb ha)
  exact⟨a,x,y,e,ha,h1,h2,k _ _ (fun z=>z.elim (fun z=>z.elim (ne b1) fun z=>z.elim (ne b3) fun z=>z.elim (ne b4) (ne b5)) (Wb ha)) p⟩
 nolen:=by rw[typeLookup_type,builtinLookup_eq_fast];kernel_rfl
 nohint:=by rw[typeLookup_type,builtinLookup_eq_fast];kernel_rfl
 nl:=by decide
 nt:=by decide
theorem Inv.nr {X:Cx}{pins:List (Addr×Obj)}{σ:St}:∀(as:List Addr) (ps:List (List V)) {H:Hp} {s:Shared},Inv X pins σ H s->as.Nodup->as.length=ps.length->(∀a∈as,dB X pins H a/\X.s₀.heap.objs.size<=a) ->
  (∀(j:Nat) a p,as[j]? = some a->ps[j]? = some p->p.length<=sizeLine/\∃au:List Value,Vals p au/\IsTup s.heap a au.toArray) ->
  ∃H',Inv X pins σ H' s/\aw H H'/\(∀b,b∉as->H' b=H b)/\∀(j:Nat) a p,as[j]? = some a->ps[j]? = some p->H' a=some (.tup p)
 | [],ps,H,s,I,_,_,_,_=>⟨H,I,aw.refl H,fun _ _=>rfl,fun j a p h _=>by simp at h⟩
 | a::as,[],H,s,I,_,hl,_,_=>by simp at hl
 | a::as,p::ps,H,s,I,nd,hl,hf,ho=>by
  obtain⟨na,vG⟩:=U4.mp nd
  obtain⟨fa,sa⟩:=hf a Jp
  obtain⟨hz,au,rv,ht⟩:=ho 0 a p rfl rfl
  have I1:=I.adopt (T:=a) (o := .tup p) fa sa ⟨hz,au,rv,ht⟩
  obtain⟨H',I',sm,same,all⟩:=Inv.nr as ps I1 vG (by simpa using hl) (fun b hb=>by
   obtain⟨fb,sb⟩:=hf b (Jo _ hb)
   exact⟨⟨by rw[aj (fun(e:b=a)=>na (by rw[<-e];exact hb))];exact fb.1,fb.2⟩,sb⟩) (fun j b q h1 h2=>ho (j+1) b q h1 h2)
  refine⟨H',I',fun b o e=>sm b o (by rw[aj (ai e fa.1)];exact e),fun b hb =>?_,fun j b q h1 h2 =>?_⟩
  ·rw[same b fun z=>hb (Jo _ z),aj (fun(z:b=a)=>hb (by rw[z];exact Jp))]
  ·cases j with
   | zero=>
    cases h1;cases h2
    rw[same a na];exact aE
   | succ j=>exact all j b q h1 h2
theorem pT:∀{l:List Value},(∀v∈l,∃a:Addr,v = .ref a)->∃as:List Addr,l=as.map Value.ref
 | [],_=>⟨[],rfl⟩
 | v::r,h=>by
  obtain⟨a,rfl⟩:=h v Jp
  obtain⟨as,rfl⟩:=pT fun u hu=>h u (Jo _ hu)
  exact⟨a::as,rfl⟩
section
variable {X:Cx}
noncomputable def Kt (K:Jd)(ta:TA):TE:=fun σ H Q=>ta σ H fun vs H1=>pO fun l1 l2 xs ys=>vs=[.ref l1,.ref l2]/\aB K H1 l1 xs/\aB K H1 l2 ys /\
 ∀H' p (as:List Addr),aw H1 H'->H1 p=none->H' p=some (.lst (as.map V.ref))->as.length=min xs.length ys.length ->
  (∀(j:Nat) a x y,as[j]? = some a->xs[j]? = some x->ys[j]? = some y->H1 a=none/\H' a=some (.tup [x,y]))->Q (.ref p) H'
theorem j6 {xs ys:List V}(j:Nat)(x y:V)(hx:xs[j]? = some x)(hy:ys[j]? = some y):((xs.zip ys).map fun q=>[q.1,q.2])[j]? = some [x,y]:=by
 rw[Jn,(List.getElem?_zip_eq_some (z:=(x,y))).mpr ⟨hx,hy⟩]
 rfl
theorem nY {a b:Expr}{ta:TA}{p p2 pos vE:Pos}(hc:X.calm=true)(KH:Gl X "list")(Hm:X.mg "list" = none)(Ka:Gl X "zip")(JJ:X.mg "zip" = none)(ha:PA X [a,b] ta)
  (CS:bootBuiltins "list" = some (.type "list"):=by first|rfl|decide) (Iu:bootBuiltins "zip" = some (.type "zip"):=by first|rfl|decide)
  (Dg:starEach [.Call (.Name "zip" p2) [a,b] [] vE] X.env=[(false,eval (.Call (.Name "zip" p2) [a,b] [] vE) X.env)]:=by rfl)
  (hs:starEach [a,b] X.env=[(false,eval a X.env),(false,eval b X.env)]:=by rfl) (v7:starEach [b] X.env=[(false,eval b X.env)]:=by rfl) :
  PE X (.Call (.Name "list" p) [.Call (.Name "zip" p2) [a,b] [] vE] [] pos) (Kt X.K ta):=by
 intro pins s σ H Q I h
 refine wpAny_Call_Name_kw (e9 I KH Hm CS ?_)
 refine PyProof.Rows.callWith_type1 ?_ Dg rfl
 rw[Dg]
 show wpAny _ _ (spliced ((false,eval (.Call (.Name "zip" p2) [a,b] [] vE) X.env)::[])) _ _ _
 refine Calls.spliced_cons ?_
 refine Call_ (e9 I Ka JJ Iu (PyProof.Rows.callWith_type1 (aM (ha s σ H _ I h) fun us s1 hz_=>ae.el hz_ _ fun vs H1 I1 r1 q1 =>?_) (by rw[hs,v7]) (by rw[v7];rfl)))
 obtain⟨l1,l2,xs,ys,e,q1,q2,q⟩:=q1
 subst e
 obtain⟨u,w',rfl,r1,r2⟩:=vals2 r1
 cases r1;cases r2
 obtain⟨its1,rv1,p1,hz1⟩:=I1.list q1
 refine ae.el (I1.list q2) _ ?_
 rintro its2 rv2 p2 hz2
 have e1:=rv1.length
 have e2:=rv2.length
 have a1:l1<s1.heap.objs.size:=by obtain⟨_,e,_⟩:=p1.isList;exact Jm e
 have a2:l2<s1.heap.objs.size:=by obtain⟨_,e,_⟩:=p2.isList;exact Jm e
 refine call_zip_2 p1.isList p2.isList fun h' hz BO hTO hi1 rN hsz hk =>?_
 refine Calls.spliced_nil ?_
 have Be:s1.heap.objs.size<=h'.objs.size:=by rw[hsz];exact Ur _ _
 have gU:∀n,n<5->s1.heap.objs.size+n<h'.objs.size:=fun n hn=>by rw[hsz];exact Nat.add_lt_add_left hn _
 have zs:∀o,mQ (s1.heap.objs.size+4) (s1.heap.objs.size+2) (s1.heap.objs.size+3) s1.heap.objs.size (s1.heap.objs.size+1) l1 l2 h'.objs.size its1.toArray its2.toArray 0 (h'.push o):=fun o=>
  ⟨Jc _ BO,⟨_,_,Jc _ hTO⟩,hi1.at fun o e=>Jc _ e,rN.at fun o e=>Jc _ e,(p1.isList.at fun o e=>hk _ o e).push _,(p2.isList.at fun o e=>hk _ o e).push _,.inl (Jc _ hz)⟩
 refine rj (s:={ s1 with heap:=h' }) (ur (I.ok.hd hc) (zipApart_new a1 a2) (gU 4 (by decide)) (gU 2 (by decide)) (gU 3 (by decide)) (gU 0 (by decide)) (gU 1 (by decide)) (Jy a1 Be) (Jy a2 Be)) (by simp;omega) zs fun h2 tk acc c Av G =>?_
 obtain⟨hS2,hsz2,hpw,cU⟩:=G
 obtain⟨as,lM⟩:=pT (l:=acc.toList) fun v hv=>by
  obtain⟨j,hj⟩:=U2.mp hv
  obtain⟨a,_,_,e,_⟩:=cU j v (by simpa using hj)
  exact⟨a,e⟩
 have tY:∀(j:Nat) a,as[j]? = some a->∃x y,h'.objs.size<a/\its1.toArray[j]? = some x/\its2.toArray[j]? = some y/\IsPair h2 a x y:=fun j a h=>by
  obtain⟨a',x,y,e,g⟩:=cU j (.ref a) (by
   have:acc.toList[j]? = some (.ref a):=by rw[lM,Jn,h];rfl
   simpa using this)
  cases e
  exact⟨x,y,g⟩
 have above:∀a∈as,h'.objs.size<a:=fun a ha=>by
  obtain⟨j,hj⟩:=U2.mp ha
  obtain⟨_,_,g,_⟩:=tY j a hj
  exact g
 have old:∀b o,s1.heap.get? b=some o->h2.get? b=some o:=fun b o e=>by
  have hb:=Jm e
  have gt:∀n,b≠s1.heap.objs.size+n:=fun n=>J5 (Jy hb (Ur _ _))
  exact Av b o (fun z=>z.elim (gt 4) fun z=>z.elim (gt 3) fun z=>z.elim (gt 0) (gt 1)) (hk b o e)
 have I2:Inv X pins σ H1 { s1 with heap:=h2,toks:=tk }:=I1.kept old
 have Bc:∀a∈as,s1.heap.objs.size<=a:=fun a ha=>Uy (Uc Be (above a ha))
 have nd:as.Nodup:=by
  rw[lM,List.pairwise_map] at hpw
  exact hpw.imp fun hz_=>ae.el hz_ _ fun a b e1 e2 h=>by cases e1;cases e2;exact J5 h
 have iE:∀a,s1.heap.objs.size<=a->dB X pins H1 a/\X.s₀.heap.objs.size<=a:=fun a ha=>⟨I1.iE ha (I1.aN.fresh ha),Jq I1.sz ha⟩
 have Al:as.length=min xs.length ys.length:=by
  have z:acc.toList.length=as.length:=by rw[lM,Ja]
  simp at z hsz2
  omega
 obtain⟨H',I',sm,same,all⟩:=I2.nr as ((xs.zip ys).map fun q=>[q.1,q.2]) nd (by rw[Ja,List.length_zip];omega) (fun a ha=>iE a (Bc a ha)) (fun j a pp h1 h2'=>by
  refine ae.el (tY j a h1) _ ?_
  rintro x y _ g1 g2 g3
  refine ae.el (fF rv1 g1) _ ?_
  rintro vx gx rx
  refine ae.el (fF rv2 g2) _ ?_
  rintro vy gy ry
  have z:=j6 j vx vy gx gy
  rw[z] at h2';cases h2'
  exact⟨by show 2<=sizeLine;decide,[x,y],.cons rx (.cons ry .nil),⟨_,g3,rfl,_,rfl⟩⟩)
 have EK:h'.objs.size∉as:=fun hm=>U6 _ (above _ hm)
 have Aj:H1 h'.objs.size=none:=I1.aN.fresh Be
 obtain⟨fS,sS⟩:=iE h'.objs.size Be
 have IZ:dB X pins H' h'.objs.size:=⟨by rw[same _ EK];exact Aj,fS.2⟩
 have I3:=I'.adopt (T:=h'.objs.size) (o := .lst (as.map V.ref)) IZ sS ⟨by rw[Ja];omega,acc.toList,c,by
  rw[lM]
  clear hS2 lM all same I' sm Bc nd Al EK above tY
  induction as with
  | nil=>exact .nil
  | cons a r ih=>exact .cons rfl ih,by simpa using hS2⟩
 refine⟨.ref h'.objs.size,_,I3,rfl,q _ _ as (fun b o e =>?_) Aj aE Al fun j a x y h1 h2' h3'=>⟨(iE a (Bc a (Yo h1))).1.1,?_⟩⟩
 ·rw[aj (ai e Aj)];exact sm b o e
 ·rw[aj (fun(z:a=h'.objs.size)=>EK (by rw[<-z];exact Yo h1))]
  exact all j a [x,y] h1 (j6 j x y h2' h3')
end
structure dz (H:Hp)(p:Addr)(o:HO)(H':Hp):Prop where
 nn:H p=none
 eq:H'=upd H p o
theorem dz.at {H H':Hp}{p:Addr}{o:HO}(n:dz H p o H'):H' p=some o:=by rw[n.eq];exact aE
theorem dz.ne {H H':Hp}{p a:Addr}{o:HO}(n:dz H p o H')(h:a≠p):H' a=H a:=by rw[n.eq];exact aj h
theorem dz.same {H H':Hp}{p:Addr}{o:HO}(n:dz H p o H'):aw H H':=fun a u e=>by rw[n.ne (ai e n.nn)];exact e
theorem dz.back {H H':Hp}{p a:Addr}{o:HO}(n:dz H p o H')(h:H' a=none):H a=none:=by
 cases e:H a with
 | none=>rfl
 | some u=>rw[n.same a u e] at h;cases h
structure iO (H:Hp)(p:Addr)(o:HO)(H':Hp):Prop where
 eq:H'=upd H p o
theorem iO.at {H H':Hp}{p:Addr}{o:HO}(n:iO H p o H'):H' p=some o:=by rw[n.eq];exact aE
theorem iO.ne {H H':Hp}{p a:Addr}{o:HO}(n:iO H p o H')(h:a≠p):H' a=H a:=by rw[n.eq];exact aj h
theorem iK {H:Hp}{o:HO}{F:Addr->Hp->Prop}:(∀p,H p=none->F p (upd H p o)) = ∀p H',dz H p o H'->F p H':=
 propext ⟨fun h p H' n=>by rw[n.eq];exact h p n.nn,fun h p hp=>h p _ ⟨hp,rfl⟩⟩
theorem wU {H:Hp}{p:Addr}{o:HO}{F:Hp->Prop}:F (upd H p o) = ∀H',iO H p o H'->F H':=
 propext ⟨fun h H' n=>by rw[n.eq];exact h,fun h=>h _ ⟨rfl⟩⟩
section
variable {X:Cx}{pos:Pos}{es:List Expr}{t:TA}
noncomputable def xA (t:TA):TE:=fun σ H Q=>t σ H fun xs H1=>xs.length<=sizeLine/\∀p H',dz H1 p (.tup xs) H'->Q (.ref p) H'
noncomputable def sF (t:TA):TE:=fun σ H Q=>t σ H fun xs H1=>xs.length<=sizeLine/\∀p H',dz H1 p (.lst xs) H'->Q (.ref p) H'
theorem gK {x1}(h:PA X es t):PE X (.Tuple es x1 pos) (xA t):=by
 have e:xA t=AH t:=by
  funext σ H Q
  show t σ H _=t σ H _
  congr 1;funext xs H1
  exact congrArg (_ /\ ·) (iK (F:=fun p H'=>Q (.ref p) H')).symm
 rw[e];exact zT h
theorem dm (h:PA X es t):PE X (.List es pos) (sF t):=by
 have e:sF t=AI t:=by
  funext σ H Q
  show t σ H _=t σ H _
  congr 1;funext xs H1
  exact congrArg (_ /\ ·) (iK (F:=fun p H'=>Q (.ref p) H')).symm
 rw[e];exact yN h
noncomputable def oK (nh:List (TE×TE)):TE:=fun σ H Q=>∀p H0,dz H p (.dK []) H0->ji nh σ H0 fun ps H2=>H2 p=some (.dK [])/\∃kvs:List (Key×V),ps=kvs.map (fun kv=>(kV kv.1,kv.2))/\kvs.length<=15/\∀H3,iO H2 p (.dK (dI [] kvs)) H3->Q (.ref p) H3
theorem Br {keys:List (Option Expr)}{values:List Expr}{nh:List (TE×TE)}(h:Cm X pos keys values nh)(cU:keys.all (·.isSome)=true)(hl:keys.length=values.length)(h0:keys≠[])
  (FL:keys.length<=15):PE X (.Dict keys values pos) (oK nh):=by
 have e:oK nh=uE nh:=by
  funext σ H Q
  unfold oK uE
  rw[iK (F:=fun p H0=>ji nh σ H0 fun ps H2=>H2 p=some (.dK [])/\∃kvs:List (Key×V),ps=kvs.map (fun kv=>(kV kv.1,kv.2))/\kvs.length<=15/\Q (.ref p) (upd H2 p (.dK (dI [] kvs))))]
  simp only[<-wU (F:=fun H3=>Q (.ref _) H3)]
 rw[e];exact w6 h cU hl h0 FL
end
section
variable {X:Cx}(K:Jd)
noncomputable def B2 (K:Jd):V->Option Int->Option Int->Hp->VK->Prop:=fun x lo hi H Q=>(bV fun a xs=>x = .ref a/\aB K H a xs/\∀p H',dz H p (.lst (nN xs lo hi)) H'->Q (.ref p) H')∨(∃z,x = .str z/\z.length<=sizeLine/\Q (.str (Txt.slice z lo hi)) H)
theorem zP (hK:X.K=K:=by rfl):u5 X (B2 K):=by
 subst hK
 intro pins s σ H x v vl vu lo hi sl Q I rx hs pl pu q
 refine A7 s σ H x v vl vu lo hi sl Q I rx hs pl pu ?_
 rcases q with ⟨a,xs,e,h,q⟩|q
 ·exact .inl ⟨a,xs,e,h,fun p hp=>q p _ ⟨hp,rfl⟩⟩
 ·exact .inr q
theorem xI (hK:X.K=K:=by rfl):bN X (.type "list") (fun xs H Q=>∃p ys,xs=[.ref p]/\(aB K H p ys∨iC K H p ys)/\∀l H',dz H l (.lst ys) H'->Q (.ref l) H'):=by
 subst hK
 intro pins s σ H xs us Q I r h
 refine ae.el (h) _ ?_
 rintro p ys e h q
 exact lE s σ H xs us Q I r ⟨p,ys,e,h,fun l hl=>q l _ ⟨hl,rfl⟩⟩
end
section
variable {X:Cx}
noncomputable def A8:R2:=fun x y H Q=>(bV fun i j=>x = .int i/\y = .int j/\Q (.int (i+j)) H)∨(∃i j,x = .str i/\y = .str j/\i.length+j.length<=sizeLine/\Q (.str (i++j)) H) ∨
 pO fun l b xs zs=>x = .ref l/\y = .ref b/\H l=some (.lst xs)/\H b=some (.lst zs)/\xs.length+zs.length<=sizeLine/\∀p H',dz H p (.lst (xs++zs)) H'->Q (.ref p) H'
theorem eJ:dC X (binaryOp .Add) A8:=by
 intro pins s σ H x y v u Q I rx ry h
 refine Bm s σ H x y v u Q I rx ry ?_
 rcases h with h|h|⟨l,b,xs,zs,e1,e2,h1,h2,h3,q⟩
 ·exact .inl h
 ·exact .inr (.inl h)
 ·exact .inr (.inr ⟨l,b,xs,zs,e1,e2,h1,h2,h3,fun p hp=>q p _ ⟨hp,rfl⟩⟩)
noncomputable def xk:R2:=fun x y H Q=>(bV fun i j=>x = .int i/\y = .int j/\oS i j/\Q (.int (i*j)) H) ∨
 dR fun l k xs=>x = .ref l/\y = .int k/\H l=some (.lst xs) /\ -(2^63)<=k/\k<2^63/\xs.length*k.toNat<=sizeLine/\∀p H',dz H p (.lst (Jt k.toNat xs).flatten) H'->Q (.ref p) H'
theorem lX:dC X (binaryOp .Mult) xk:=by
 intro pins s σ H x y v u Q I rx ry h
 refine CG s σ H x y v u Q I rx ry ?_
 rcases h with h|⟨l,k,xs,e1,e2,h1,h2,h3,h4,q⟩
 ·exact .inl h
 ·exact .inr ⟨l,k,xs,e1,e2,h1,h2,h3,h4,fun p hp=>q p _ ⟨hp,rfl⟩⟩
theorem vI:bN X (.builtin "divmod") (fun xs H Q=>∃i j,xs=[.int i,.int j]/\zf i j/\∀p H',dz H p (.tup [.int (i / j),.int (i%j)]) H'->Q (.ref p) H'):=by
 intro pins s σ H xs us Q I r h
 refine ae.el (h) _ ?_
 rintro i j e c q
 exact mM s σ H xs us Q I r ⟨i,j,e,c,fun p hp=>q p _ ⟨hp,rfl⟩⟩
theorem lK:vf X "list.append" (fun x vs H Q=>∃l xs y,x = .ref l/\vs=[y]/\H l=some (.lst xs)/\xs.length<sizeLine/\∀H',iO H l (.lst (xs++[y])) H'->Q .non H'):=by
 intro pins s σ H x xs v us Q I rx rv h
 refine ae.el (h) _ ?_
 rintro l ys y e1 e2 h1 h2 q
 exact rg s σ H x xs v us Q I rx rv ⟨l,ys,y,e1,e2,h1,h2,q _ ⟨rfl⟩⟩
theorem iL:vf X "list.extend" (fun x vs H Q=>∃l b xs zs,x = .ref l/\vs=[.ref b]/\H l=some (.lst xs)/\H b=some (.lst zs)/\xs.length+zs.length<=sizeLine/\∀H',iO H l (.lst (xs++zs)) H'->Q .non H'):=by
 intro pins s σ H x xs v us Q I rx rv h
 refine ae.el (h) _ ?_
 rintro l b ys zs e1 e2 h1 h2 h3 q
 exact rH s σ H x xs v us Q I rx rv ⟨l,b,ys,zs,e1,e2,h1,h2,h3,q _ ⟨rfl⟩⟩
theorem FT:vf X "list.pop" (fun x vs H Q=>∃l xs y,x = .ref l/\vs=[]/\H l=some (.lst xs)/\xs[xs.length-1]? = some y/\∀H',iO H l (.lst xs.dropLast) H'->Q y H'):=by
 intro pins s σ H x xs v us Q I rx rv h
 refine ae.el (h) _ ?_
 rintro l ys y e1 e2 h1 h2 q
 exact yP s σ H x xs v us Q I rx rv ⟨l,ys,y,e1,e2,h1,h2,q _ ⟨rfl⟩⟩
theorem yW:vf X "list.pop" (fun x vs H Q=>∃l xs i y,x = .ref l/\vs=[.int i]/\H l=some (.lst xs)/\0<=i/\i<2^63/\xs[i.toNat]? = some y/\∀H',iO H l (.lst (xs.eraseIdx i.toNat)) H'->Q y H'):=by
 intro pins s σ H x xs v us Q I rx rv h
 refine ae.el (h) _ ?_
 rintro l ys i y e1 e2 h1 h2 h3 h4 q
 refine uo s σ H x xs v us Q I rx rv ⟨l,ys,i,i.toNat,y,e1,e2,h1,by omega,h3,?_,h4,q _ ⟨rfl⟩⟩
 have hl:=(Ju.mp h4).1
 have q:oJ ys ((i.toNat:Nat):Int)=some y:=lH h4
 have ei:((i.toNat:Nat):Int)=i:=by omega +splitMinMax
 rw[ei] at q
 obtain⟨j,hj,FW,_⟩:=iX q
 have:sf ys.length i=some i.toNat:=by unfold sf;rw[if_pos h2,if_pos (by omega)]
 exact(kQ this).1
end
theorem dW {J:It}{n:Nat}{js:List Nat}{g:TG}{tc:TT}{te:TE}{σ:St}{H1:Hp}{Q:V->Hp->Prop}(N:Nat)(Pv:Nat->List V->Hp->Prop)(h0:Pv 0 [] H1)
  (go:∀i ys H (Nx:List V->Hp->Prop),i<N->Pv i ys H->(∀ys' H',Pv (i+1) ys' H'->Nx ys' H')->J.go i H/\ys.length<sizeLine /\
   ∀x H',J.yld i H x H'->g x (Jt n none++cq σ js) H' fun σ2 H2=>tc σ2 H2 fun b H3=>if b=true then te σ2 H3 fun y H4=>Nx (ys++[y]) H4 else Nx ys H3)
  (stop:∀ys H,Pv N ys H->J.stop N H/\∀p H',dz H p (.lst ys) H'->Q (.ref p) H'):pS J n js g tc te σ H1 fun ys H2=>∀p,H2 p=none->Q (.ref p) (upd H2 p (.lst ys)):=
 bA N Pv h0 go fun ys H h=>⟨(stop ys H h).1,fun p hp=>(stop ys H h).2 p _ ⟨hp,rfl⟩⟩
theorem lQ {α:Type}{xs:List α}{i:Int}{v: α}(h0:0<=i)(h:xs[i.toNat]? = some v):oJ xs i=some v:=by
 have q:=lH h
 have e:((i.toNat:Nat):Int)=i:=by omega
 rw[e] at q
 exact q
noncomputable def Dj:PyData->String
 | .none => "NoneType"
 | .bool _ => "bool"
 | .int _ => "int"
 | .str _ => "str"
 | .list _ => "list"
 | .tuple _ => "tuple"
 | .dict _ => "dict"
section
variable {X:Cx}
theorem wu {pins:List (Addr×Obj)}{σ:St}{H:Hp}{s:Shared}{x:V}{u:Value}{d:PyData}(I:Inv X pins σ H s)(rx:RelV x u)(h:Den X.K H d x):∃HH:Heap->Prop,PySem.W.KitX X.K u (.type (Dj d)) HH/\HH s.heap/\u ≠ .builtin "__main__.__loader__#opaque":=by
 cases d with
 | none=>unfold Den at h;subst h;cases rx;exact⟨_,PySem.W.kitx_none,True.intro,fun z=>nomatch z⟩
 | bool b=>unfold Den at h;subst h;cases rx;exact⟨_,PySem.W.kitx_bool,True.intro,fun z=>nomatch z⟩
 | int i=>unfold Den at h;subst h;obtain⟨t,rfl⟩:=rx;exact⟨_,PySem.W.kitx_int,True.intro,fun z=>nomatch z⟩
 | str y=>unfold Den at h;subst h;obtain⟨t,rfl⟩:=rx;exact⟨_,PySem.W.kitx_str,True.intro,fun z=>nomatch z⟩
 | list ds=>
  unfold Den at h
  refine ae.el (h) _ ?_
  rintro a vs rfl h2 _
  cases rx
  obtain⟨au,_,⟨o,n,e1,e2,_⟩,_⟩:=I.list h2
  exact⟨_,PySem.W.kitx_list,⟨o,e1,e2⟩,fun z=>nomatch z⟩
 | tuple ds=>
  unfold Den at h
  refine ae.el (h) _ ?_
  rintro a vs rfl h2 _
  cases rx
  obtain⟨au,_,⟨o,e1,e2,_⟩,_⟩:=I.tuple h2
  exact⟨_,PySem.W.kitx_tuple,⟨o,e1,e2⟩,fun z=>nomatch z⟩
 | dict _=>unfold Den at h;exact h.elim
theorem qt:bN X (.builtin "isinstance") (fun xs H Q=>∃(x:V) (T:String) (d:PyData) (b:Bool),xs=[x,.ty T]/\Den X.K H d x/\PySem.W.kitOne X.K (.type (Dj d)) (.type T)=some b/\Q (.bl b) H):=by
 intro pins s σ H xs us Q I r h
 refine ae.el (h) _ ?_
 rintro x T d b rfl hd e q
 refine ae.el (vals2 r) _ ?_
 rintro u w' rfl r1 r2
 cases r2
 refine ae.el (wu I r1 hd) _ ?_
 rintro HH Z hh hx
 exact U7 Z I.lq hh e hx fun tk=>⟨.bl b,H,I.tok _,rfl,q⟩
noncomputable def ET (K:Jd):List V->Hp->VK->Prop:=fun xs H Q=>(∃(x:V) (T:String) (d:PyData) (b:Bool),xs=[x,.ty T]/\Den K H d x/\PySem.W.kitOne K (.type (Dj d)) (.type T)=some b/\Q (.bl b) H) ∨
 ∃x T t b,xs=[x,.ty T]/\gO K H x t/\PySem.W.kitOne K t (.type T)=some b/\Q (.bl b) H
theorem EZ (K:Jd)(hK:X.K=K:=by rfl):bN X (.builtin "isinstance") (ET K):=by subst hK;exact qt.or tq
end
section
variable {X:Cx}(K:Jd)
theorem Kv (hK:X.K=K:=by rfl):dC X (compareOp .In) (GU K false):=by subst hK;exact rL
end
section
variable {prog:Program}{w:World}{A:Around}{R:Result->Shared->Prop}{s:Shared}
theorem m7 {kx vx target iter:Expr}{ifs:List Expr}{scope:Scope}{pos:Pos}{it:Value}{D:Addr}{env:Env}(I:Nat->Shared->Prop)
  (turn:∀n s,I n s->wpAny (model prog w) A (pyNext it) (fun r s1=>match r with
   | none=>R (.ok .next) s1
   | some v=>wpAny (model prog w) A (letOwnedTupleGo target it v) (fun _ s1'=>wpAny (model prog w) A (assign target env v) (fun _ s2=>
     wpAny (model prog w) A (lN ifs env) (fun ok s3=>
      if ok=true then wpAny (model prog w) A (eval kx env) (fun kv s4=>wpAny (model prog w) A (eval vx env) (fun vv s5=>
       wpAny (model prog w) A (dictSet D kv vv) (fun _ s6=>∃m,m<n/\I m s6) eQ s5) eQ s4) eQ s3
      else ∃m,m<n/\I m s3) eQ s2) eQ s1') eQ s1) eQ s)
  (n:Nat) (h:I n s):codeAny (model prog w) A (.compLoop (.DictComp kx vx [⟨target,iter,ifs,0⟩] scope pos) 0 it (.ref D) env) R s:=by
 refine codeAny_loop rfl I (fun n s hI=>(show wpAny _ A (Sem.onRaise (compTurn (.DictComp kx vx [⟨target,iter,ifs,0⟩] scope pos) 0 it (.ref D) env) (fun x=>do noteFrame x env;theTreesLotGoes x)) _ _ s from wpAny_noted ?_)) n h
 rw[compTurn_dict]
 refine wpAny_bind (wpAny_standAt (wpAny_bind (bg (aM (turn n s hI) fun r s1 h1 =>?_))))
 cases r with
 | none=>exact wpAny_pure h1
 | some v=>
  refine wpAny_bind (bg (aM h1 fun _ s1' h1' =>?_))
  refine wpAny_bind (bg (aM h1' fun _ s2 h2=>wpAny_bind (bg (aM h2 fun ok s3 h3 =>?_))))
  cases ok with
  | false=>exact wpAny_pure ⟨rfl,h3⟩
  | true=>
   exact wpAny_bind (wpAny_bind (bg (aM h3 fun kv s4 h4=>wpAny_bind (wpAny_holding (bg (aM h4 fun vv s5 h5=>wpAny_bind (wpAny_standAt (wpAny_holding (bg (aM h5 fun _ s6 h6=>wpAny_pure ⟨rfl,h6⟩))))))))))
end
section
variable {X:Cx}{pins:List (Addr×Obj)}{σ:St}{H:Hp}{s:Shared}{a:Addr}{y v:V}{u r:Value}{A:Around}{E:Value->Shared->Prop}
theorem j4 {kvs:List (Key×V)}{k:Key}{Q:Unit->Shared->Prop}(I:Inv X pins σ H s)(e:H a=some (.dK kvs))(l:kvs.length<sizeLine)(ry:RelV (kV k) u)(rv:RelV v r)
  (h:∀s',Inv X pins σ (upd H a (.dK (putK kvs k v))) s'->Q () s'):wpAny (model X.prog X.w) A (dictSet a u r) Q E s:=by
 refine ae.el (tL I.aN e) _ ?_
 rintro z hd vs rel dd
 have hz:vs.length<=sizeLine:=by rw[<-rel.length];exact z
 have hl:(putK kvs k v).length<=sizeLine:=by have:=cO kvs k v;omega
 refine wpAny_dictSet_pairs (hsz:=hz) (jr ry) dd fun h' dd' hs=>h _ ?_
 have he:∃q,h'.get? a=some q:=let ⟨q,_,_,hq,_⟩:=dd'; ⟨q,hq⟩
 exact fH I (by rw[e];exact True.intro) hs he (lB hl hd (rel.put k rv) dd')
end
section
variable {X:Cx}{pins:List (Addr×Obj)}{σ:St}{H:Hp}{s:Shared}{scope:Scope}{Nc Fc:List Str}{js:List Nat}{cl:List (Str×Addr)}{C:Addr}{fp:List Addr}
theorem mD (I:Inv X pins σ H s)(c:cS X scope Nc Fc js)(cJ:∀n c,cl.lookup n=some c->X.env.cells.lookup n=some c)(fO:∀y∈scope.names,y.2 = .free->∃c,cl.lookup y.1=some c)
  (hC:s.heap.objs.size<=C) (hf:∀b∈fp,dB X pins H b) (ho:∀b∈fp,∃o,s.heap.get? b=some o) {h1:Heap} {t1:Nat} {m:Str->Option Value}
  (hk:∀b o,s.heap.get? b=some o->h1.get? b=some o) (hm:h1.Ns C m) :
  Inv (d4 X Nc Fc scope cl C s H fp) [] (Jt Nc.length none++cq σ js) H { s with heap:=h1,toks:=t1 }:=by
 refine⟨jt I c cJ fO hC hf ho,rfl,I.bare,Un.kept hk,⟨m,hm,fun i x v e1 e2 e3 =>?_⟩,fun x a e =>?_,I.aN.fresh hC,fun x a e=>I.freeC x a (cJ x a e),fun p hp =>?_,I.aN.kept hk,?_⟩
 ·have e1:(Nc++Fc)[i]? = some x:=e1
  have e2:(Jt Nc.length none++cq σ js)[i]? = some (some v):=e2
  by_cases hi:i<Nc.length
  ·rw[Uh (by simpa using hi),Yn] at e2
   split at e2<;>cases e2
  ·rw[Ua (by omega)] at e1
   rw[Ua (by rw[U1];omega),U1] at e2
   refine ae.el (c.frees _ _ e1) _ ?_
   rintro hfr j hj hN
   have hv: σ[j]? = some (some v):=by
    unfold cq at e2
    rw[Jn,hj] at e2
    have e2:some ((σ[j]?).join)=some (some v):=e2
    cases q: σ[j]? with
    | none=>rw[q] at e2;cases e2
    | some z=>rw[q] at e2;cases e2;rfl
   have kx:=c.free _ (bF hfr) rfl
   refine ae.el (I.loc) _ ?_
   rintro m0 Ha hl0
   have Gi:BV X.env.scope x:=by
    rcases kx with k|k
    ·exact .inr (.inl k)
    ·exact .inr (.inr k)
   refine ae.el (hl0 j x v hN hv Gi) _ ?_
   rintro u ru lk
   refine⟨u,ru,.inr ⟨?_,?_⟩⟩
   ·rw[jk];exact cV hfr
   ·obtain⟨a,ha⟩:=fO _ (bF hfr) rfl
    refine⟨a,ha,?_⟩
    rcases lk with ⟨k,_⟩|⟨_,a',ha',hcell⟩
    ·rcases kx with q|q<;>(rw[k] at q;cases q)
    ·have e:=cJ _ _ ha
     dsimp only at e
     rw[ha'] at e;cases e
     exact hcell.keeps hk
 ·obtain⟨v,z⟩:=I.cell x a (cJ x a e)
  exact⟨v,z.keeps hk⟩
 ·have hp:p∈([]:List (Addr×Obj)):=hp
  cases hp
 ·show(Jt Nc.length none++cq σ js).length=(Nc++Fc).length
  unfold cq
  rw[Jg,Jg,U1,Ja,c.lens]
end
noncomputable def xw (J:It)(n:Nat)(js:List Nat)(g:TG)(tc:TT)(tk tv:TE)(σ:St)(D:Addr)(H1:Hp)(fin:Hp->Prop):Prop:=
 ∃W:Nat->Nat->Hp->Prop,(∃m,W 0 m H1)/\∀i m H,W i m H ->
  (J.stop i H/\fin H) ∨
  (J.go i H/\∀x H',J.yld i H x H'->g x (Jt n none++cq σ js) H' fun σ2 H2=>tc σ2 H2 fun b H3=>
   if b=true then tk σ2 H3 fun y H4=>tv σ2 H4 fun z H5=>bV fun kvs k=>H5 D=some (.dK kvs)/\y=kV k/\kvs.length<sizeLine/\∃m',m'<m/\W (i+1) m' (upd H5 D (.dK (putK kvs k z))) else ∃m',m'<m/\W (i+1) m' H3)
noncomputable def lr (wi:TI)(n:Nat)(js:List Nat)(g:TG)(tc:TT)(tk tv:TE):TE:=fun σ H Q=>wi σ H fun J H1=>∀D,H1 D=none->xw J n js g tc tk tv σ D (upd H1 D (.dK [])) fun H2=>Q (.ref D) H2
theorem jG {X:Cx}{kx vx tg iter:Expr}{ifs:List Expr}{scope:Scope}{pos:Pos}{Nc Fc:List Str}{js:List Nat}{wi:TI}{g:TG}{tc:TT}{tk tv:TE}{use:Option (Value->Sem Unit)}{QV:Value->Shared->Prop}
  (cg:X.calm=true) (c:cS X scope Nc Fc js) (hi:PI X tg iter wi)
  (hg:∀cl C s H fp,PG (d4 X Nc Fc scope cl C s H fp) tg g) (tx:∀cl C s H fp,xS (d4 X Nc Fc scope cl C s H fp) ifs tc) (ck:∀cl C s H fp,PE (d4 X Nc Fc scope cl C s H fp) kx tk) (rM:∀cl C s H fp,PE (d4 X Nc Fc scope cl C s H fp) vx tv) (gk:Gk Nc.length g)
  {pins:List (Addr×Obj)} {s:Shared} {σ:St} {H:Hp} {fin:Addr->Hp->Prop} (I:Inv X pins σ H s)
  (h:wi σ H fun J H1=>∀D,H1 D=none->xw J Nc.length js g tc tk tv σ D (upd H1 D (.dK [])) (fin D))
  (behind:∀(C D:Addr) (m:Str->Option Value) (H2:Hp) (s2:Shared),Inv X pins σ H2 s2->s2.heap.Ns C m->dB X pins H2 C->fin D H2->compPost (model X.prog X.w) X.A X.xe use QV (.ref D) C (.ok .next) s2)
  (hs:∀x,foldedSetIterable iter X.env x=pure x) :
  wpAny (model X.prog X.w) X.A (comprehension (.DictComp kx vx [⟨tg,iter,ifs,0⟩] scope pos) scope X.env (firstIterPos [⟨tg,iter,ifs,0⟩] pos) newDict false (eval iter X.env) use) QV X.xe s:=by
 obtain⟨cl,hclos,cJ,fO⟩:=gq (scope:=scope) (env:=X.env) fun y hy hf=>I.ok.has y.1 (c.free y hy hf)
 refine wpAny_comprehension_free (use:=use) rfl hs hclos c.kind c.names ?_
 refine aM (hi s σ H _ I h) fun v s1 h1=>aM h1 fun Ae s2 h2 =>?_
 obtain⟨it,fp,tn,J,H2,e,I2,T,bz,f2,all⟩:=h2
 subst e
 refine wpAny_newObj_type (wpAny_newFunctionEnv c.nocell (by intro y hy;simp at hy) (fun h1 hns1 hsb1 =>?_) c.kind)
 dsimp only at hns1 hsb1 ⊢
 have vz:H2 s2.heap.objs.size=none:=I2.aN.fresh (Je _)
 have uO:=I2.laid (a:=s2.heap.objs.size) (o := .dK []) (h':=s2.heap.push { cls := .type "dict",data := .dict #[] }) (t':=s2.toks) (fun _ _ q=>Jc _ q) (Je _) (gL s2.heap I2.big)
 obtain⟨W,⟨m0,w0⟩,turn⟩:=all _ vz
 have AQ:∀b∈fp,∃o,s2.heap.get? b=some o:=fun b hb=>let ⟨o,e,_⟩:=T.obj 0 _ bz b hb; ⟨o,e⟩
 have jW:∀b∈fp,b<s2.heap.objs.size:=fun b hb=>let ⟨o,e⟩:=AQ b hb;Jm e
 generalize hG:s2.heap.push { cls := .type "dict",dict:=none,data := .dict #[] } = G at hns1 hsb1 uO ⊢
 have toG:∀b o,s2.heap.get? b=some o->G.get? b=some o:=fun b o e=>hG▸Jc _ e
 have hC:G.objs.size=s2.heap.objs.size+1:=by rw[<-hG,Wg]
 have old:∀b o,G.get? b=some o->h1.get? b=some o:=fun b o e=>
  hsb1.extBut b o (bU (Jm e) (Je _)) (Jc _ e)
 let D:Addr:=s2.heap.objs.size
 let s2':Shared:={ s2 with heap:=G,toks:=s2.toks }
 let H2':Hp:=upd H2 D (.dK [])
 have yT:∀b∈fp,dB X pins H2' b:=fun b hb=>by
  obtain⟨a1,a2⟩:=f2 b hb
  refine⟨?_,a2⟩
  show upd H2 D (.dK []) b=none
  rw[aj (J5 (jW b hb))];exact a1
 have fo:∀b∈fp,∃o,s2'.heap.get? b=some o:=fun b hb=>let ⟨o,e⟩:=AQ b hb; ⟨o,toG b o e⟩
 have Gd:∀b∈fp,b<G.objs.size:=fun b hb=>by have:=jW b hb;rw[hC];exact Wc this
 let Xc:Cx:=d4 X Nc Fc scope cl G.objs.size s2' H2' fp
 have eg:∀{H':Hp},(∀b∈fp,H' b=none)->∀b∈fp,dB Xc [] H' b:=fun{H'} hn b hb=>by
  refine⟨hn b hb,?_,?_,.inl hb,fun x a e =>?_,fun p hq =>?_⟩
  ·exact bU (Gd b hb) (Je _)
  ·exact(jt uO c cJ fO (Je _) yT fo).exfs b hb
  ·exact(f2 b hb).2.2.2.2.1 x a (cJ _ _ e)
  ·have q:p∈([]:List (Addr×Obj))++[]:=hq
   simp at q
 have loop:∀t1,codeAny (model X.prog X.w) X.A (.compLoop (.DictComp kx vx [⟨tg,iter,ifs,0⟩] scope pos) 0 (.ref it) (.ref s2.heap.objs.size) (compEnvC scope cl G.objs.size X.env))
   (compPost (model X.prog X.w) X.A X.xe use QV (.ref s2.heap.objs.size) G.objs.size) { s2 with heap:=h1,toks:=t1 }:=by
  intro t1
  refine m7 (fun n s'=>∃i H',Inv Xc [] (Jt Nc.length none++cq σ js) H' s'/\tn i s'.heap/\(∀b∈fp,H' b=none)/\W i n H') ?_ m0
   ⟨0,H2',mD uO c cJ fO (Je _) yT fo old hns1,T.keep _ _ _ bz (fun b hb o e=>old b o (toG b o e)),fun b hb=>(yT b hb).1,w0⟩
  intro n s3
  refine ae.go ?_
  rintro i H3 I3 cv fr3 w3
  rcases turn i n H3 w3 with ⟨stop,qn⟩|⟨go,step⟩
  ·refine aM (T.done Xc rfl rfl rfl cg i _ s3 _ H3 eQ I3 (eg fr3) cv stop) fun r s4 hz_ =>?_
   refine ae.el hz_ _ ?_
   clear hz_
   rintro hr I4
   subst hr
   show compPost _ _ _ _ _ _ _ _ _
   refine ae.el (I4.loc) _ ?_
   rintro mC hmC _
   have CT:H3 G.objs.size=none:=I4.free
   have u:Un (kP X.stack) fp H2' H3 G s4.heap:=I4.base
   have nT:∀b∈fp,(b∈X.ex∨X.s₀.heap.objs.size<=b)/\b≠X.env.locals/\(∀x c,X.env.cells.lookup x=some c->c≠b)/\∀p∈X.pn++pins,p.1≠b:=fun b hb=>
    ⟨(f2 b hb).2.2.2.1,(f2 b hb).2.1,(f2 b hb).2.2.2.2.1,(f2 b hb).2.2.2.2.2⟩
   have CN:s4.os=s2'.os:=I4.os
   have J4:Inv X pins σ H3 s4:=uO.pJ (H':=H3) CN u I4.aN I4.bare nT
   exact behind G.objs.size D mC H3 s4 J4 hmC (uO.iE (Je _) CT) qn
  ·refine aM (T.item Xc rfl rfl rfl cg i _ s3 _ H3 eQ I3 (eg fr3) cv go) fun r s4 hz_ =>?_
   refine ae.el hz_ _ ?_
   clear hz_
   rintro u hr h4
   subst hr
   show wpAny _ _ (letOwnedTupleGo tg (.ref it) u) _ _ _
   refine aM h4 fun _ s5 hz_ =>?_
   refine ae.el hz_ _ ?_
   clear hz_
   rintro x H5 I5 r5 y5 cG fr5
   have v5:=I5.pinned (eg fr5) (T.obj _ _ cG)
   refine aM (hg cl G.objs.size s2' H2' fp s5 _ H5 x u _ v5 r5 (gk _ _ _ _ (step x H5 y5))) fun _ s6 hz_ =>?_
   refine ae.el hz_ _ ?_
   clear hz_
   rintro σ6 H6 I6 q6 kσ kl
   refine aM (tx cl G.objs.size s2' H2' fp s6 σ6 H6 _ I6 q6) fun b s7 hz_ =>?_
   refine ae.el hz_ _ ?_
   clear hz_
   rintro H7 I7 q7
   have later:∀{σ':St} {H':Hp} {s':Shared},Inv Xc ([]++dq fp s5.heap) σ' H' s'->tn (i+1) s'.heap/\∀b∈fp,H' b=none:=fun{σ' H' s'} Iz=>by
    refine⟨T.keep _ _ _ cG fun b hb o e=>(Iz.pin (b,o) (Ji _ (Ji _ (bw hb e)))).1,fun b hb =>?_⟩
    refine ae.el (T.obj _ _ cG b hb) _ ?_
    rintro o e d
    exact(Iz.pin (b,o) (Ji _ (Ji _ (bw hb e)))).2.1
   have back:∀{pl:List (Addr×Obj)} {H':Hp} {s':Shared},Inv Xc pl σ6 H' s'->Inv Xc pl (Jt Nc.length none++cq σ js) H' s':=fun{pl H' s'} Iz=>by
    refine Iz.weak (by rw[<-kl]) fun j v hj =>?_
    by_cases hn:j<Nc.length
    ·rw[Uh (by simpa using hn),Yn] at hj
     split at hj<;>cases hj
    ·rw[kσ j (by omega)];exact hj
   cases b with
   | false=>
    rw[if_neg Jk] at q7 ⊢
    refine ae.el (q7) _ ?_
    rintro m' nR w7
    obtain⟨l1,l2⟩:=later I7
    exact⟨m',nR,i+1,H7,back I7.cQ,l1,l2,w7⟩
   | true=>
    rw[if_pos rfl] at q7 ⊢
    refine aM (ck cl G.objs.size s2' H2' fp s7 σ6 H7 _ I7 q7) fun yv s8 hz_ =>?_
    refine ae.el hz_ _ ?_
    clear hz_
    rintro y H8 I8 r8 q8
    refine aM (rM cl G.objs.size s2' H2' fp s8 σ6 H8 _ I8 q8) fun zv s9 hz_ =>?_
    refine ae.el hz_ _ ?_
    clear hz_
    rintro z H9 I9 r9 q9
    refine ae.el (q9) _ ?_
    rintro kvs k eD ey hl m' nR w9
    subst ey
    refine j4 (X:=Xc) I9 eD hl r8 r9 fun s10 I10 =>?_
    obtain⟨l1,l2⟩:=later I10
    exact⟨m',nR,i+1,_,back I10.cQ,l1,l2,w9⟩
 exact codeAny_compStart_dict (loop _) (T.self _ 0 _ _ _ (T.keep _ _ _ bz fun b hb o e=>old b o (toG b o e)) (loop _))
theorem my {X:Cx}{kx vx tg iter:Expr}{ifs:List Expr}{scope:Scope}{pos:Pos}{Nc Fc:List Str}{js:List Nat}{wi:TI}{g:TG}{tc:TT}{tk tv:TE}
  (cg:X.calm=true) (c:cS X scope Nc Fc js) (hi:PI X tg iter wi) (gk:Gk Nc.length g)
  (hg:∀cl C s H fp,PG (d4 X Nc Fc scope cl C s H fp) tg g) (tx:∀cl C s H fp,xS (d4 X Nc Fc scope cl C s H fp) ifs tc) (ck:∀cl C s H fp,PE (d4 X Nc Fc scope cl C s H fp) kx tk) (rM:∀cl C s H fp,PE (d4 X Nc Fc scope cl C s H fp) vx tv)
  (hs:∀x,foldedSetIterable iter X.env x=pure x:=by intro _;rfl) :
  PE X (.DictComp kx vx [⟨tg,iter,ifs,0⟩] scope pos) (lr wi Nc.length js g tc tk tv):=by
 intro pins s σ H Q I h
 rw[arm_eval_DictComp]
 refine jG (use:=none) (fin:=fun D H2=>Q (.ref D) H2) cg c hi hg tx ck rM gk I h (fun C D m H2 s2 I2 hm hC q =>?_) hs
 refine⟨m,hm,fun h' hs' =>?_⟩
 exact⟨.ref D,_,I2.turned (it:=C) (t':=s2.toks) (fun b o hb e=>hs'.extBut b o hb e) hC.1 (hC.2.1) hC.2.2.2.1 hC.2.2.2.2.1 hC.2.2.2.2.2,rfl,q⟩
theorem mw {X:Cx}{i:Nat}{y:Str}{kx vx tg iter:Expr}{ifs:List Expr}{scope:Scope}{pos pos' py:Pos}{Nc Fc:List Str}{js:List Nat}{wi:TI}{g:TG}{tc:TT}{tk tv:TE}(hN:X.N.Nodup)(hy:X.N[i]? = some y)(hl:Loc X.env.scope y)
  (cg:X.calm=true) (c:cS X scope Nc Fc js) (hi:PI X tg iter wi) (gk:Gk Nc.length g)
  (hg:∀cl C s H fp,PG (d4 X Nc Fc scope cl C s H fp) tg g) (tx:∀cl C s H fp,xS (d4 X Nc Fc scope cl C s H fp) ifs tc) (ck:∀cl C s H fp,PE (d4 X Nc Fc scope cl C s H fp) kx tk) (rM:∀cl C s H fp,PE (d4 X Nc Fc scope cl C s H fp) vx tv)
  (Eg:swapsWith (.DictComp kx vx [⟨tg,iter,ifs,0⟩] scope pos) (some (.Name y py)) pos'.line X.env=pure true:=by rfl)
  (hs:∀x,foldedSetIterable iter X.env x=pure x:=by intro _;rfl)
  (hf:X.fn y=true∨X.env.scope.names.lookup y=some .local:=by first|exact .inl rfl|exact .inr rfl|assumption) :
  PS X (.Assign [.Name y py] (.DictComp kx vx [⟨tg,iter,ifs,0⟩] scope pos) pos') (q5 (lr wi Nc.length js g tc tk tv) (fC i)):=by
 intro pins s σ H E I h
 rw[exec_Assign_Name_used _ _ _ _ Eg]
 refine wpAny_bind (wpAny_standAt (wpAny_bind ?_))
 show wpAny _ X.A (do let _ <-comprehension (.DictComp kx vx [⟨tg,iter,ifs,0⟩] scope pos) scope X.env _ newDict false (eval iter X.env) (some (assign (.Name y py) X.env))) _ _ s
 refine wpAny_bind (aM (jG (use:=some (assign (.Name y py) X.env)) (fin:=fun D H2=>fC i (.ref D) σ H2 E.nx) (QV:=fun _ s'=>SP X pins E .next s') cg c hi hg tx ck rM gk I h (fun C D m H2 s2 I2 hm hC q =>?_) hs) fun _ s' hq=>wpAny_pure (wpAny_pure hq))
 show wpAny _ _ (assign (.Name y py) X.env (.ref D)) _ _ s2
 refine wpAny_assign_Name (hJ I2 hN hy hl (v := .ref D) rfl (fun s3 I3 hz_=>ae.el hz_ _ fun a rO ha =>?_) hf)
 have iB:C≠a:=by
  rcases ha with e|e
  ·rw[e];exact hC.2.1
  ·exact fun z=>hC.2.2.2.2.1 _ _ e z.symm
 refine⟨m,hm.at' fun o e=>rO.extBut _ o iB e,fun h' hs' =>?_⟩
 exact⟨_,_,I3.turned (it:=C) (t':=s3.toks) (fun b o hb e=>hs'.extBut b o hb e) hC.1 hC.2.1 hC.2.2.2.1 hC.2.2.2.2.1 hC.2.2.2.2.2,q⟩
section
variable {prog:Program}{w:World}{A:Around}{E:Value->Shared->Prop}{s:Shared}{a₀:Array Keyed}{key:Keyed->Int}{kd:SortKind}
noncomputable def gA (prog:Program)(w:World)(A:Around)(E:Value->Shared->Prop)(s:Shared)(a₀:Array Keyed)(key:Keyed->Int)(kd:SortKind):Prop:=
 ∀(st:SortSt) (x y:Keyed) (Q:Option Bool->SortSt->Prop),x∈a₀.toList->y∈a₀.toList->kindOf st=kd->Q (some (decide (key x<key y))) st->wpS (model prog w) A E s (lt' x y) Q st
noncomputable def ky (key:Keyed->Int)(xs:Array Keyed)(i:Nat):Int:=match xs[i]? with
 | some p=>key p
 | none=>0
theorem cE {xs ys:Array Keyed}{i j:Nat}(h:xs[i]? = ys[j]?):ky key xs i=ky key ys j:=by unfold ky;rw[h]
theorem cB {xs:Array Keyed}{i:Nat}{p:Keyed}(h:xs[i]? = some p):ky key xs i=key p:=by unfold ky;rw[h]
structure Af (a₀:Array Keyed)(kd:SortKind)(lo:Nat)(fU st:SortSt):Prop where
 perm:(arrOf st).Perm a₀
 kind:kindOf st=kd
 failed:failedOf st=none
 pend:pendingOf st=pendingOf fU
 low:∀i,i<lo->(arrOf st)[i]? = (arrOf fU)[i]?
theorem Af.size {lo:Nat}{fU st:SortSt}(h:Af a₀ kd lo fU st):(arrOf st).size=a₀.size:=h.perm.size_eq
theorem Af.set {lo:Nat}{fU st:SortSt}(h:Af a₀ kd lo fU st){xs:Array Keyed}(hp:xs.Perm (arrOf st))(hl:∀i,i<lo->xs[i]? = (arrOf st)[i]?):Af a₀ kd lo fU (setArr st xs):=
 ⟨hp.trans h.perm,h.kind,h.failed,h.pend,fun i hi=>(hl i hi).trans (h.low i hi)⟩
theorem uR {xs:Array Keyed}(hp:xs.Perm a₀){i:Nat}{p:Keyed}(h:xs[i]? = some p):p∈a₀.toList:=by
 refine(Y7.mp hp).mem_iff.mp ?_
 exact Array.mem_toList_iff.mpr (Array.mem_of_getElem? h)
theorem fI {xs:Array Keyed}{i:Nat}{st:SortSt}{Q:Keyed->SortSt->Prop}(hi:i<xs.size)(h:∀p,xs[i]? = some p->Q p st):wpS (model prog w) A E s (elem' xs i) Q st:=by
 rw[elem'_eq,getElem?_pos xs i hi]
 exact wpS_pure (h _ (getElem?_pos xs i hi))
theorem vP {st:SortSt}{i j:Nat}{Q:Option Bool->SortSt->Prop}(hL:gA prog w A E s a₀ key kd)(hp:(arrOf st).Perm a₀)(hk:kindOf st=kd)(hi:i<a₀.size)(hj:j<a₀.size)
  (h:Q (some (decide (ky key (arrOf st) i<ky key (arrOf st) j))) st):wpS (model prog w) A E s (ltAt' i j) Q st:=by
 rw[ltAt'_eq]
 refine wpS_bind (wpS_get ?_)
 show wpS _ _ _ _ (do let x <-elem' (arrOf st) i;let y <-elem' (arrOf st) j;lt' x y) Q st
 have hs:=hp.size_eq
 refine wpS_bind (fI (by omega) fun p e1=>wpS_bind (fI (by omega) fun q e2 =>?_))
 refine hL _ _ _ _ (uR hp e1) (uR hp e2) hk ?_
 rw[cB e1,cB e2] at h
 exact h
theorem Af.lt {lo:Nat}{fU st:SortSt}{i j:Nat}{Q:Option Bool->SortSt->Prop}(h:Af a₀ kd lo fU st)(hL:gA prog w A E s a₀ key kd)(hi:i<a₀.size)(hj:j<a₀.size)
  (q:Q (some (decide (ky key (arrOf st) i<ky key (arrOf st) j))) st):wpS (model prog w) A E s (ltAt' i j) Q st:=vP hL h.perm h.kind hi hj q
noncomputable def Sg (key:Keyed->Int)(xs:Array Keyed)(i j:Nat):Prop:=∀p q,i<=p->p<=q->q<j->ky key xs p<=ky key xs q
noncomputable def Ng (key:Keyed->Int)(xs:Array Keyed)(i j:Nat):Prop:=∀p q,i<=p->p<=q->q<j->ky key xs q<=ky key xs p
theorem hX {xs:Array Keyed}{i j:Nat}(hj:j<=xs.size)(k:Nat):
  ky key (mirror xs i j ((j-i) / 2)) k=if i<=k/\k<j then ky key xs (i+j-1-k) else ky key xs k:=by
 have e:=getElem?_mirror_all (i:=i) hj k
 by_cases h1:i<=k/\k<j
 ·rw[if_pos h1] at e ⊢;exact cE e
 ·rw[if_neg h1] at e ⊢;exact cE e
theorem o9 {xs:Array Keyed}{i j lo:Nat}(hj:j<=xs.size)(hi:lo<=i):∀k,k<lo->(mirror xs i j ((j-i) / 2))[k]? = xs[k]?:=fun k hk=>by
 rw[getElem?_mirror_all hj,if_neg (by omega)]
theorem bO {xs:Array Keyed}{i j:Nat}(hj:j<=xs.size)(heq:∀k,i<=k->k<j->ky key xs k=ky key xs (j-1))(k:Nat):
  ky key (mirror xs i j ((j-i) / 2)) k=ky key xs k:=by
 rw[hX hj]
 split
 ·rw[heq _ (by omega) (by omega),heq k (by omega) (by omega)]
 ·rfl
theorem Af.rev {lo i j:Nat}{fU st:SortSt}(h:Af a₀ kd lo fU st)(hi:lo<=i)(hj:j<=a₀.size):Af a₀ kd lo fU (setArr st (mirror (arrOf st) i j ((j-i) / 2))):=
 h.set (mirror_perm _ _ _ _) (o9 (by rw[h.size];exact hj) hi)
noncomputable def tj (lo a bq:Nat):StateT SortSt Sem AscSt:=
 forIn [a:bq] ((none,a):AscSt) fun _ c=>do
  let x <-ltAt' (lo+c.snd) (lo+c.snd-1)
  match x with
  | some smaller=>if smaller=true then pure (ForInStep.done (none,c.snd)) else pure (ForInStep.yield (none,c.snd+1))
  | _=>pure (ForInStep.done (some none,c.snd))
noncomputable def ma (lo n bq:Nat):StateT SortSt Sem (Option Nat):=do
 reverseSlice' lo (lo+n)
 let c <-tj lo n bq
 match c.fst with
 | some r=>pure r
 | none=>pure (some c.snd)
noncomputable def pF (lo n bq:Nat):StateT SortSt Sem DescSt:=
 forIn [n:bq] ((none,n,0):DescSt) fun _ c=>do
  let x <-ltAt' (lo+c.snd.fst) (lo+c.snd.fst-1)
  match x with
  | some smaller=>
   if smaller=true then
    if c.snd.snd>0 then do
     reverseSlice' (lo+c.snd.fst-(c.snd.snd+1)) (lo+c.snd.fst)
     pure (ForInStep.yield (none,c.snd.fst+1,0))
    else pure (ForInStep.yield (none,c.snd.fst+1,0))
   else do
    let x <-ltAt' (lo+c.snd.fst-1) (lo+c.snd.fst)
    match x with
    | some larger=>
     if larger=true then pure (ForInStep.done (none,c.snd.fst,c.snd.snd))
     else pure (ForInStep.yield (none,c.snd.fst+1,c.snd.snd+1))
    | _=>pure (ForInStep.done (some none,c.snd.fst,c.snd.snd))
  | _=>pure (ForInStep.done (some none,c.snd.fst,c.snd.snd))
noncomputable def nP (lo n bq:Nat):StateT SortSt Sem (Option Nat):=do
 liftM (rule "list.sort.descending-run")
 let c <-pF lo (n+1) bq
 match c.fst with
 | some r=>pure r
 | none=>
  if c.snd.snd>0 then do
   reverseSlice' (lo+c.snd.fst-(c.snd.snd+1)) (lo+c.snd.fst)
   ma lo c.snd.fst bq
  else ma lo c.snd.fst bq
theorem rE (lo bq:Nat):countRun' lo bq=(do
  let c <-tj lo 1 bq
  match c.fst with
  | some r=>pure r
  | none=>
   if (c.snd==bq)=true then pure (some c.snd)
   else if c.snd>1 then do
    let x <-ltAt' lo (lo+c.snd-1)
    match x with
    | some rose=>if rose=true then pure (some c.snd) else do
      reverseSlice' lo (lo+c.snd)
      nP lo c.snd bq
    | _=>pure none
   else nP lo c.snd bq):=by
 rw[countRun'_eq]
 dsimp only
 unfold nP ma pF tj
 congr 1
 funext c
 obtain⟨r,n⟩:=c
 cases r with
 | some r=>rfl
 | none=>
  dsimp only
  split
  ·rfl
  ·split
   ·congr 1
    funext x
    cases x with
    | none=>rfl
    | some rose=>
     dsimp only
     split
     ·rfl
     ·congr 1
      funext _r
      congr 1;funext _u;congr 1;congr 1;funext s2;obtain⟨r2,n2,q2⟩:=s2
      cases r2 with
      | some r2=>rfl
      | none=>(dsimp only;split; (congr 1;funext _v; (congr 1;funext _w;congr 1; (funext s3;obtain⟨r3,n3⟩:=s3;cases r3<;>rfl))); (congr 1;funext _w;congr 1; (funext s3;obtain⟨r3,n3⟩:=s3;cases r3<;>rfl)))
   ·congr 1;funext _u;congr 1;congr 1;funext s2;obtain⟨r2,n2,q2⟩:=s2
    cases r2 with
    | some r2=>rfl
    | none=>(dsimp only;split; (congr 1;funext _v; (congr 1;funext _w;congr 1; (funext s3;obtain⟨r3,n3⟩:=s3;cases r3<;>rfl))); (congr 1;funext _w;congr 1; (funext s3;obtain⟨r3,n3⟩:=s3;cases r3<;>rfl)))
theorem uh {fU st:SortSt}{lo a bq:Nat}{Q:AscSt->SortSt->Prop}(hL:gA prog w A E s a₀ key kd)(hn:lo+bq<=a₀.size)(ha:1<=a)(Ij:a<=bq)(hB:Af a₀ kd lo fU st)
  (hs:Sg key (arrOf st) lo (lo+a))
  (h:∀n,a<=n->n<=bq->Sg key (arrOf st) lo (lo+n)->(n=bq∨ky key (arrOf st) (lo+n)<ky key (arrOf st) (lo+n-1))->Q (none,n) st) :
  wpS (model prog w) A E s (tj lo a bq) Q st:=by
 unfold tj
 refine wpS_forRange (I:=fun x c av=>av=st/\c=(none,x)/\Sg key (arrOf st) lo (lo+x)) ?step ?fin ⟨rfl,rfl,hs⟩
 case fin=>
  intro c av
  refine ae.go ?_
  rintro rfl rfl hs'
  rw[Nat.max_eq_right (by omega)] at hs' ⊢
  exact h bq Ij (Je _) hs' (.inl rfl)
 case step=>
  intro x c av hax Ap
  refine ae.go ?_
  rintro rfl rfl hs'
  dsimp only
  refine wpS_bind (hB.lt hL (by omega) (by omega) ?_)
  by_cases hless:ky key (arrOf av) (lo+x)<ky key (arrOf av) (lo+x-1)
  ·simp -iota only [hless,decide_true,if_true]
   exact wpS_pure (h x hax (by omega) hs' (.inr hless))
  ·simp -iota only [hless,decide_false,J6,if_false]
   refine wpS_pure ⟨rfl,rfl,fun i j hl fV hj =>?_⟩
   by_cases hjx:j<lo+x
   ·exact hs' i j hl fV hjx
   ·have pV:j=lo+x:=by omega
    subst pV
    by_cases gD:i=lo+x
    ·subst gD;exact Yb _
    ·exact Int.le_trans (hs' i (lo+x-1) hl (Yw (Uk fV gD)) (by omega)) (Int.not_lt.mp hless)
theorem pR {fU st:SortSt}{lo n bq:Nat}{Q:Option Nat->SortSt->Prop}(hL:gA prog w A E s a₀ key kd)(hn:lo+bq<=a₀.size)(h1:1<=n)(ve:n<=bq)(hB:Af a₀ kd lo fU st)
  (hs:Ng key (arrOf st) lo (lo+n)) (h:∀m av,Af a₀ kd lo fU av->1<=m->m<=bq->Sg key (arrOf av) lo (lo+m)->Q (some m) av) :
  wpS (model prog w) A E s (ma lo n bq) Q st:=by
 unfold ma
 have hsz:lo+n<=(arrOf st).size:=by rw[hB.size];omega
 refine wpS_bind (wpS_reverse ?_)
 have eU:=hB.rev (i:=lo) (j:=lo+n) (Je _) (by omega)
 refine wpS_bind (uh hL hn h1 ve eU ?_ fun m hm1 hm2 hsm _=>wpS_pure (h m _ eU (by omega) hm2 hsm))
 intro i j hl fV hj
 show ky key (mirror (arrOf st) lo (lo+n) ((lo+n-lo) / 2)) i<=ky key (mirror (arrOf st) lo (lo+n) ((lo+n-lo) / 2)) j
 rw[hX hsz,hX hsz,if_pos (by omega),if_pos (by omega)]
 exact hs _ _ (by omega) (Nat.sub_le_sub_left fV _) (by omega)
theorem vo {fU st:SortSt}{lo n bq:Nat}{Q:DescSt->SortSt->Prop}(hL:gA prog w A E s a₀ key kd)(hn:lo+bq<=a₀.size)(h1:1<=n)(ve:n<=bq)(hB:Af a₀ kd lo fU st)
  (hs:Ng key (arrOf st) lo (lo+n))
  (h:∀m neq av,Af a₀ kd lo fU av->n<=m->m<=bq->Ng key (arrOf av) lo (lo+m)->neq+1<=m->(∀i,lo+m-(neq+1)<=i->i<lo+m->ky key (arrOf av) i=ky key (arrOf av) (lo+m-1))->Q (none,m,neq) av) :
  wpS (model prog w) A E s (pF lo n bq) Q st:=by
 unfold pF
 refine wpS_forRange (I:=fun x c av=>∃neq,c=(none,x,neq)/\Af a₀ kd lo fU av/\Ng key (arrOf av) lo (lo+x)/\neq+1<=x /\
   (∀i,lo+x-(neq+1)<=i->i<lo+x->ky key (arrOf av) i=ky key (arrOf av) (lo+x-1))) ?step ?fin ⟨0,rfl,hB,hs,by omega,fun i h1 h2=>congrArg (ky key _) (Y2 (Yw h2) h1)⟩
 case fin=>
  intro c av
  refine ae.go ?_
  rintro neq rfl eU hs' hq he
  rw[Nat.max_eq_right ve] at hs' hq he ⊢
  exact h bq neq av eU ve (Je _) hs' hq he
 case step=>
  intro x c av hax Ap
  refine ae.go ?_
  rintro neq rfl eU hs' hq he
  dsimp only
  have hsz:lo+x<=(arrOf av).size:=by rw[eU.size];omega
  have lx:lo+x-1<lo+x:=by omega
  refine wpS_bind (eU.lt hL (by omega) (by omega) ?_)
  by_cases hless:ky key (arrOf av) (lo+x)<ky key (arrOf av) (lo+x-1)
  ·simp -iota only [hless,decide_true,if_true]
   have kO:∀xs:Array Keyed,(∀k,ky key xs k=ky key (arrOf av) k)->Ng key xs lo (lo+(x+1)):=by
    intro xs hk i j hl fV hj
    rw[hk,hk]
    by_cases hjx:j<lo+x
    ·exact hs' i j hl fV hjx
    ·have pV:j=lo+x:=by omega
     subst pV
     by_cases gD:i=lo+x
     ·subst gD;exact Yb _
     ·exact Int.le_trans (Yl hless) (hs' i (lo+x-1) hl (Yw (Uk fV gD)) lx)
   by_cases hneq:neq>0
   ·rw[if_pos hneq]
    refine wpS_bind (wpS_reverse (wpS_pure ⟨0,rfl,eU.rev (by omega) (by omega),kO _ (bO hsz he),by omega,fun i h1 h2=>congrArg (ky key _) (Y2 (Yw h2) h1)⟩))
   ·rw[if_neg hneq]
    exact wpS_pure ⟨0,rfl,eU,kO _ (fun _=>rfl),by omega,fun i h1 h2=>congrArg (ky key _) (Y2 (Yw h2) h1)⟩
  ·simp -iota only [hless,decide_false,J6,if_false]
   refine wpS_bind (eU.lt hL (by omega) (by omega) ?_)
   by_cases hlarger:ky key (arrOf av) (lo+x-1)<ky key (arrOf av) (lo+x)
   ·simp -iota only [hlarger,decide_true,if_true]
    exact wpS_pure (h x neq av eU hax (by omega) hs' hq he)
   ·simp -iota only [hlarger,decide_false,J6,if_false]
    have CI:ky key (arrOf av) (lo+x)=ky key (arrOf av) (lo+x-1):=by omega
    refine wpS_pure ⟨neq+1,rfl,eU,fun i j hl fV hj =>?_,by omega,fun i h1 h2 =>?_⟩
    ·by_cases hjx:j<lo+x
     ·exact hs' i j hl fV hjx
     ·have pV:j=lo+x:=by omega
      subst pV
      by_cases gD:i=lo+x
      ·subst gD;exact Yb _
      ·rw[CI];exact hs' i (lo+x-1) hl (Yw (Uk fV gD)) lx
    ·rw[show lo+(x+1)-1=lo+x from Nat.add_sub_cancel (lo+x) 1]
     by_cases hix:i=lo+x
     ·subst hix;rfl
     ·rw[CI];exact he i (Jq (Yp (Nat.succ_sub_succ (lo+x) (neq+1)).symm) h1) (Uk (Wd h2) hix)
theorem ng {fU st:SortSt}{lo n bq:Nat}{Q:Option Nat->SortSt->Prop}(hL:gA prog w A E s a₀ key kd)(hn:lo+bq<=a₀.size)(ve:n+1<=bq)(hB:Af a₀ kd lo fU st)
  (hs:Ng key (arrOf st) lo (lo+(n+1))) (h:∀m av,Af a₀ kd lo fU av->1<=m->m<=bq->Sg key (arrOf av) lo (lo+m)->Q (some m) av) :
  wpS (model prog w) A E s (nP lo n bq) Q st:=by
 unfold nP
 refine wpS_bind (wpS_lift (wpAny_rule ⟨rfl,?_⟩))
 refine wpS_bind (vo hL hn (by omega) ve hB hs fun m neq av eU hm1 hm2 hs' hq he =>?_)
 dsimp only
 have hsz:lo+m<=(arrOf av).size:=by rw[eU.size];omega
 by_cases hneq:neq>0
 ·rw[if_pos hneq]
  refine wpS_bind (wpS_reverse (pR hL hn (by omega) hm2 (eU.rev (by omega) (by omega)) ?_ h))
  intro i j hl fV hj
  show ky key (mirror (arrOf av) _ _ _) j<=ky key (mirror (arrOf av) _ _ _) i
  rw[bO hsz he,bO hsz he]
  exact hs' i j hl fV hj
 ·rw[if_neg hneq]
  exact pR hL hn (by omega) hm2 eU hs' h
theorem uQ {fU st:SortSt}{lo bq:Nat}{Q:Option Nat->SortSt->Prop}(hL:gA prog w A E s a₀ key kd)(hn:lo+bq<=a₀.size)(h1:1<=bq)(hB:Af a₀ kd lo fU st)
  (h:∀m av,Af a₀ kd lo fU av->1<=m->m<=bq->Sg key (arrOf av) lo (lo+m)->Q (some m) av) :
  wpS (model prog w) A E s (countRun' lo bq) Q st:=by
 rw[rE]
 refine wpS_bind (uh hL hn (Je 1) h1 hB (fun i j hl fV hj=>by rw[show i=j by omega];exact Yb _) fun n hn1 zD hsn hor =>?_)
 dsimp only
 by_cases ve:n=bq
 ·rw[if_pos (by simpa using ve)]
  exact wpS_pure (h n st hB hn1 zD hsn)
 ·rw[if_neg (by simpa using ve)]
  have bP:ky key (arrOf st) (lo+n)<ky key (arrOf st) (lo+n-1):=hor.resolve_left ve
  by_cases hgt:n>1
  ·rw[if_pos hgt]
   refine wpS_bind (hB.lt hL (by omega) (by omega) ?_)
   by_cases hrose:ky key (arrOf st) lo<ky key (arrOf st) (lo+n-1)
   ·simp -iota only [hrose,decide_true,if_true]
    exact wpS_pure (h n st hB hn1 zD hsn)
   ·simp -iota only [hrose,decide_false,J6,if_false]
    have hsz:lo+n<=(arrOf st).size:=by rw[hB.size];omega
    have cU:∀k,lo<=k->k<lo+n->ky key (arrOf st) k=ky key (arrOf st) (lo+n-1):=by
     intro k hl hk
     have a1:=hsn lo k (by omega) hl hk
     have a2:=hsn k (lo+n-1) hl (by omega) (by omega)
     omega
    refine wpS_bind (wpS_reverse (ng hL hn (by omega) (hB.rev (by omega) (by omega)) ?_ h))
    intro i j hl fV hj
    show ky key (mirror (arrOf st) _ _ _) j<=ky key (mirror (arrOf st) _ _ _) i
    rw[bO hsz cU,bO hsz cU]
    by_cases hjn:j<lo+n
    ·rw[cU i hl (by omega),cU j (by omega) hjn];exact Yb _
    ·have pV:j=lo+n:=by omega
     subst pV
     by_cases gD:i=lo+n
     ·subst gD;exact Yb _
     ·rw[cU i hl (by omega)];exact Yl bP
  ·rw[if_neg hgt]
   have DY:n=1:=by omega
   subst DY
   refine ng hL hn (by omega) hB ?_ h
   intro i j hl fV hj
   by_cases gD:i=j
   ·subst gD;exact Yb _
   ·have yO:i=lo:=by omega
    have IX:j=lo+1:=by omega
    subst yO;subst IX
    exact Yl bP
theorem kK {xs:Array Keyed}{src d:Nat}(hs:src<xs.size)(hd:d<=src)(k:Nat):
  ky key (bubble xs src d) k=if k=src-d then ky key xs src else if src-d<k/\k<=src then ky key xs (k-1) else ky key xs k:=by
 have e:=getElem?_bubble hs d hd k
 by_cases h1:k=src-d
 ·rw[if_pos h1] at e ⊢;exact cE e
 ·rw[if_neg h1] at e ⊢
  by_cases h2:src-d<k/\k<=src
  ·rw[if_pos h2] at e ⊢;exact cE e
  ·rw[if_neg h2] at e ⊢;exact cE e
theorem zr {fU st:SortSt}{lo n ok:Nat}{Q:Bool->SortSt->Prop}(hL:gA prog w A E s a₀ key kd)(hn:lo+n<=a₀.size)(aN:ok<=n)(hB:Af a₀ kd lo fU st)(hs:Sg key (arrOf st) lo (lo+ok))
  (h:∀av,Af a₀ kd lo fU av->Sg key (arrOf av) lo (lo+n)->Q true av):wpS (model prog w) A E s (binarySort' lo n ok) Q st:=by
 rw[binarySort'_eq]
 refine wpS_bind (wpS_mono (wpS_forRange (I:=fun k c av=>c=(none,())/\Af a₀ kd lo fU av/\Sg key (arrOf av) lo (lo+min k n))
  (Q:=fun c av=>c=(none,())/\Af a₀ kd lo fU av/\Sg key (arrOf av) lo (lo+n)) ?step ?fin ?init) ?post)
 case post=>
  intro c av
  refine ae.go ?_
  rintro rfl eU hs'
  exact wpS_pure (h av eU hs')
 case init=>
  refine⟨rfl,hB,fun i j hl fV hj =>?_⟩
  by_cases h1:ok=0
  ·subst h1
   have FW:j<lo+1:=Jy hj (U3 (Nat.min_le_left _ _) _)
   have:i=j:=Y2 fV (Jq (Wd FW) hl)
   subst this;exact Yb _
  ·exact hs i j hl fV (Jy hj (U3 (Jq (Nat.min_le_left _ _) (Yp (Nat.max_eq_left (Nat.pos_of_ne_zero h1)))) _))
 case fin=>
  intro c av
  refine ae.go ?_
  rintro hc eU hs'
  refine⟨hc,eU,?_⟩
  rwa[Nat.min_eq_right (Nat.le_max_right _ _)] at hs'
 case step=>
  intro k c av hak hkn
  refine ae.go ?_
  rintro rfl eU hs'
  rw[Yu (Uy hkn)] at hs'
  have hk:lo+k<a₀.size:=by omega
  refine wpS_bind (wpS_mono (wpS_forRange (I:=fun x c st''=>st''=av/\∃l r,c=(none,l,r)/\l<=r/\r<=k/\r+x<=k+l /\
    (∀i,i<l->ky key (arrOf av) (lo+i)<=ky key (arrOf av) (lo+k))/\(∀i,r<=i->i<k->ky key (arrOf av) (lo+k)<ky key (arrOf av) (lo+i)))
   (Q:=fun c st''=>st''=av/\∃l r,c=(none,l,r)/\l<=k /\
    (∀i,i<l->ky key (arrOf av) (lo+i)<=ky key (arrOf av) (lo+k))/\(∀i,l<=i->i<k->ky key (arrOf av) (lo+k)<ky key (arrOf av) (lo+i))) ?istep ?ifin ?iinit) ?ipost)
  case iinit=>exact⟨rfl,0,k,rfl,by omega,by omega,by omega,fun i hi=>by omega,fun i h1 h2=>by omega⟩
  case ifin=>
   intro c st''
   refine ae.go ?_
   rintro rfl l r rfl hlr hrk hm uD hhi
   have:l=r:=by omega
   subst this
   exact⟨rfl,l,l,rfl,hrk,uD,hhi⟩
  case istep=>
   intro x c st'' _ hxk
   refine ae.go ?_
   rintro rfl l r rfl hlr hrk hm uD hhi
   dsimp only
   by_cases hge:l>=r
   ·rw[if_pos hge]
    have:l=r:=by omega
    subst this
    exact wpS_pure ⟨rfl,l,l,rfl,hrk,uD,hhi⟩
   ·rw[if_neg hge]
    have y1:l<=(l+r) / 2:=by omega
    have y2:(l+r) / 2<r:=by omega
    generalize (l+r) / 2=m at y1 y2 ⊢
    refine wpS_bind (eU.lt hL hk (by omega) ?_)
    by_cases hless:ky key (arrOf st'') (lo+k)<ky key (arrOf st'') (lo+m)
    ·simp -iota only [hless,decide_true,if_true]
     refine wpS_pure ⟨rfl,l,m,rfl,y1,by omega,by omega,uD,fun i h1 h2 =>?_⟩
     exact Int.lt_of_lt_of_le hless (hs' _ _ (Ur _ _) (by omega) (by omega))
    ·simp -iota only [hless,decide_false,J6,if_false]
     refine wpS_pure ⟨rfl,m+1,r,rfl,y2,hrk,by omega,fun i h1 =>?_,hhi⟩
     exact Int.le_trans (hs' (lo+i) (lo+m) (Ur _ _) (by omega) (by omega)) (Int.not_lt.mp hless)
  case ipost=>
   intro c st''
   refine ae.go ?_
   rintro rfl l r rfl hlk uD hhi
   show wpS _ _ _ _ (do moveDown' (lo+k) (lo+l);pure (ForInStep.yield (none,()))) _ _
   rw[moveDown'_eq]
   have Ah:lo+k<(arrOf st'').size:=by rw[eU.size];exact hk
   refine wpS_bind (wpS_modify (wpS_pure ⟨rfl,eU.set (bubble_perm _ _ _) (fun i hi =>?_),?_⟩))
   ·rw[getElem?_bubble Ah _ (Nat.sub_le _ _),Nat.sub_sub_self (U3 hlk lo),if_neg (by omega),if_neg (by omega)]
   rw[Yu hkn]
   have yp:∀i,lo<=i->i<lo+l->ky key (arrOf st'') i<=ky key (arrOf st'') (lo+k):=fun i h1 h2=>by
    have:=uD (i-lo) (Nat.sub_lt_left_of_lt_add h1 h2);rwa[Yz h1] at this
   have yg:∀i,lo+l<=i->i<lo+k->ky key (arrOf st'') (lo+k)<ky key (arrOf st'') i:=fun i h1 h2=>by
    have h0:=Jq (Ur lo l) h1;have:=hhi (i-lo) (Nat.le_sub_of_add_le' h1) (Nat.sub_lt_left_of_lt_add h0 h2);rwa[Yz h0] at this
   intro i j hl fV hj
   show ky key (bubble (arrOf st'') (lo+k) (lo+k-(lo+l))) i<=ky key (bubble (arrOf st'') (lo+k) (lo+k-(lo+l))) j
   have hj:j<lo+k+1:=hj
   have hy:lo+l<=lo+k:=U3 hlk _
   have h0:lo<=lo+l:=Ur _ _
   rw[kK Ah (Nat.sub_le _ _),kK Ah (Nat.sub_le _ _),Nat.sub_sub_self hy]
   clear uD hhi h hB hs hn aN hak hkn hk hlk hL
   generalize lo+l=y at h0 hy yp yg ⊢
   generalize lo+k=z at hy yp yg hs' hj Ah ⊢
   repeat' split
   all_goals first
    | (exfalso;omega)
    | exact Yb _
    | exact yp _ (by omega) (by omega)
    | exact Yl (yg _ (by omega) (by omega))
    | exact hs' _ _ (by omega) (Nat.sub_le_sub_right fV 1) (by omega)
    | exact hs' _ _ (by omega) (by omega) (by omega)
end
noncomputable def ql:Bool->Keyed->Array Keyed->Nat->Nat->Nat->StateT SortSt Sem (Option Nat):=sortPriv% PySem.Builtin.gallop
noncomputable def ly (left:Bool)(k:Keyed)(arr:Array Keyed)(base i:Nat):StateT SortSt Sem (Option Bool):=do
 let x <-elem' arr (base+i)
 if left then lt' x k else return (<-lt' k x).map (!·)
section
variable {prog:Program}{w:World}{A:Around}{E:Value->Shared->Prop}{s:Shared}{a₀:Array Keyed}{key:Keyed->Int}{kd:SortKind}
noncomputable def fY (left:Bool)(k x:Int):Bool:=if left then decide (x<k) else !decide (k<x)
theorem lg {left:Bool}{k:Keyed}{arr:Array Keyed}{base i:Nat}{st:SortSt}{Q:Option Bool->SortSt->Prop}(hL:gA prog w A E s a₀ key kd)(gc:kindOf st=kd)(ha:∀p∈arr.toList,p∈a₀.toList)(hk:k∈a₀.toList)
  (hi:base+i<arr.size) (h:Q (some (fY left (key k) (ky key arr (base+i)))) st):wpS (model prog w) A E s (ly left k arr base i) Q st:=by
 unfold ly
 refine wpS_bind (fI hi fun p e =>?_)
 have hp:=ha p (Array.mem_toList_iff.mpr (Array.mem_of_getElem? e))
 rw[cB e] at h
 cases left with
 | true=>exact hL _ _ _ _ hp hk gc h
 | false=>
  refine wpS_bind (m:=lt' k p) (hL _ _ _ _ hk hp gc ?_)
  exact wpS_pure h
theorem uY {left:Bool}{k x y:Int}(h:x<=y)(hy:fY left k y=true):fY left k x=true:=by
 unfold fY at *
 cases left
 ·simp at hy ⊢;omega
 ·simp at hy ⊢;omega
noncomputable def Ee (left:Bool)(k:Int)(key:Keyed->Int)(arr:Array Keyed)(base n r:Nat):Prop:=
 r<=n/\(∀i,i<r->fY left k (ky key arr (base+i))=true)/\∀i,r<=i->i<n->fY left k (ky key arr (base+i))=false
theorem oY {α γ:Type}{m:StateT SortSt Sem α}{Q: α->SortSt->Prop}{st:SortSt}(V: γ->StateT SortSt Sem α)(G: γ->Prop)(hV:∀z,G z->wpS (model prog w) A E s (V z) Q st)
  (hm:(∀z,G z->wpS (model prog w) A E s (V z) Q st)->wpS (model prog w) A E s m Q st):wpS (model prog w) A E s m Q st:=hm hV
section
variable {α:Type}{c:Prop}[Decidable c]{m n:StateT SortSt Sem α}{Q: α->SortSt->Prop}{st:SortSt}
theorem FQ (h:c)(hm:wpS (model prog w) A E s m Q st):wpS (model prog w) A E s (if c then m else n) Q st:=by rw[if_pos h];exact hm
theorem C2 (h:¬c)(hm:wpS (model prog w) A E s n Q st):wpS (model prog w) A E s (if c then m else n) Q st:=by rw[if_neg h];exact hm
theorem jV (h1:c->wpS (model prog w) A E s m Q st)(h2:¬c->wpS (model prog w) A E s n Q st):wpS (model prog w) A E s (if c then m else n) Q st:=by
 split
 ·exact h1 ‹_›
 ·exact h2 ‹_›
theorem lG {x y:Nat}(h1:x=y->wpS (model prog w) A E s m Q st)(h2:¬x=y->wpS (model prog w) A E s n Q st):wpS (model prog w) A E s (if (x==y)=true then m else n) Q st:=
 jV (fun z=>h1 (by simpa using z)) fun z=>h2 (by simpa using z)
end
theorem hU {left:Bool}{k:Keyed}{arr:Array Keyed}{base n hint:Nat}{st:SortSt}{Q:Option Nat->SortSt->Prop}(hL:gA prog w A E s a₀ key kd)(gc:kindOf st=kd)(ha:∀p∈arr.toList,p∈a₀.toList)(hk:k∈a₀.toList)
  (hs:Sg key arr base (base+n)) (hn:base+n<=arr.size) (hh:hint<n) (h:∀r,Ee left (key k) key arr base n r->Q (some r) st):wpS (model prog w) A E s (ql left k arr base n hint) Q st:=by
 have up:∀i j,i<=j->j<n->fY left (key k) (ky key arr (base+j))=true->fY left (key k) (ky key arr (base+i))=true:=fun i j fV hj=>uY (hs _ _ (by omega) (by omega) (by omega))
 have dn:∀i j,i<=j->j<n->fY left (key k) (ky key arr (base+i))=false->fY left (key k) (ky key arr (base+j))=false:=fun i j fV hj e=>by
  cases e2:fY left (key k) (ky key arr (base+j)) with
  | false=>rfl
  | true=>rw[up i j fV hj e2] at e;cases e
 refine wpS_bind (m:=ly left k arr base hint) (lg hL gc ha hk (by omega) ?_)
 dsimp -zeta only
 extract_lets jp mo1 mo2
 refine oY (fun z:Nat×Nat×Nat×Nat=>jp () z.1 z.2.1 z.2.2.1 z.2.2.2) (fun z=>(z.2.2.1<=z.2.2.2/\z.2.2.2<=n)/\(∀i,i<z.2.2.1->fY left (key k) (ky key arr (base+i))=true)/\(∀i,z.2.2.2<=i->i<n->fY left (key k) (ky key arr (base+i))=false)) (fun z hz =>?_) fun H =>?_
 ·obtain⟨z1,z2,lo0,yO⟩:=z
  refine wpS_bind (wpS_mono (wpS_forRange (I:=fun x c av=>av=st/\∃lo hi,c=(none,lo,hi)/\lo<=hi/\hi<=n/\hi+x<=n+lo/\(∀i,i<lo->fY left (key k) (ky key arr (base+i))=true)/\(∀i,hi<=i->i<n->fY left (key k) (ky key arr (base+i))=false))
   (Q:=fun c av=>av=st/\∃r,c=(none,r,r)/\Ee left (key k) key arr base n r) ?stepA ?finA ⟨rfl,lo0,yO,rfl,hz.1.1,hz.1.2,Jq hz.1.2 (Ur _ _),hz.2.1,hz.2.2⟩) ?postA)
  case postA=>
   intro c av
   refine ae.go ?_
   rintro rfl r rfl g
   exact wpS_pure (h r g)
  case finA=>
   intro c av
   refine ae.go ?_
   rintro rfl lo hi rfl b1 b2 b3 b4 b5
   have:lo=hi:=by omega
   subst this
   exact⟨rfl,lo,rfl,b2,b4,b5⟩
  case stepA=>
   intro x c av _ hx
   refine ae.go ?_
   rintro rfl lo hi rfl b1 b2 b3 b4 b5
   dsimp only
   refine jV (fun hge =>?_) fun hge =>?_
   ·have:lo=hi:=by omega
    subst this
    exact wpS_pure ⟨rfl,lo,rfl,b2,b4,b5⟩
   ·have y1:lo<=lo+(hi-lo) / 2:=Ur _ _
    have y2:lo+(hi-lo) / 2<hi:=by omega
    generalize lo+(hi-lo) / 2=m at y1 y2 ⊢
    refine wpS_bind (lg hL gc ha hk (by omega) ?_)
    cases e:fY left (key k) (ky key arr (base+m)) with
    | true=>
     dsimp only
     refine FQ rfl ?_
     exact wpS_pure ⟨rfl,_,_,rfl,y2,b2,by omega,fun i gD=>up i _ (Wd gD) (by omega) e,b5⟩
    | false=>
     dsimp only
     refine C2 Jk ?_
     exact wpS_pure ⟨rfl,_,_,rfl,y1,by omega,by omega,b4,fun i i1 i2=>dn _ i i1 i2 e⟩
 have eN:hint+(n-hint)=n:=Yz (Uy hh)
 refine jV (fun e =>?_) fun e =>?_
 ·refine wpS_bind (wpS_mono (wpS_forRange (I:=fun x c av=>av=st/\∃last ofs,c=(none,last,ofs)/\last<ofs/\x+1<=ofs/\last<n-hint/\fY left (key k) (ky key arr (base+(hint+last)))=true)
   (Q:=fun c av=>av=st/\∃last ofs,c=(none,last,ofs)/\last<ofs/\last<n-hint/\fY left (key k) (ky key arr (base+(hint+last)))=true/\(n-hint<=ofs∨fY left (key k) (ky key arr (base+(hint+ofs)))=false)) ?step ?fin ⟨rfl,0,1,rfl,by omega,by omega,by omega,e⟩) ?post)
  case post=>
   intro c eV
   refine ae.go ?_
   rintro rfl last ofs rfl c1 c2 c3 c4
   refine H (last,ofs,hint+last+1,hint+min ofs (n-hint)) ⟨⟨U3 (Nat.le_min.mpr ⟨c1,c2⟩) hint,Jq (U3 (Nat.min_le_right _ _) _) (Yp eN)⟩,fun i hi=>up i (hint+last) (Wd hi) (Nat.lt_of_lt_of_eq (Nat.add_lt_add_left c2 hint) eN) c3,fun i i1 i2 =>?_⟩
   have i1:hint+min ofs (n-hint)<=i:=i1
   rcases Nat.le_total (n-hint) ofs with t|t
   ·rw[Nat.min_eq_right t,eN] at i1
    exact absurd i2 (Nat.not_lt.mpr i1)
   ·rw[Yu t] at i1
    rcases c4 with c4|c4
    ·rw[Y2 t c4,eN] at i1
     exact absurd i2 (Nat.not_lt.mpr i1)
    ·exact dn (hint+ofs) i i1 i2 c4
  case fin=>
   intro c av
   refine ae.go ?_
   rintro rfl last ofs rfl c1 c2 c3 c4
   exact⟨rfl,last,ofs,rfl,c1,c3,c4,.inl (by omega)⟩
  case step=>
   intro x c av _ hx
   refine ae.go ?_
   rintro rfl last ofs rfl c1 c2 c3 c4
   dsimp only[mo1]
   refine jV (fun hge=>wpS_pure ⟨rfl,last,ofs,rfl,c1,c3,c4,.inl hge⟩) fun hge =>?_
   refine wpS_bind (lg hL gc ha hk (by omega) ?_)
   cases e2:fY left (key k) (ky key arr (base+(hint+ofs))) with
   | true=>
    exact wpS_pure ⟨rfl,ofs,2*ofs+1,rfl,by omega,by omega,by omega,e2⟩
   | false=>
    exact wpS_pure ⟨rfl,last,ofs,rfl,c1,c3,c4,.inr e2⟩
 ·have e:=Bool.eq_false_iff.mpr e
  refine wpS_bind (wpS_mono (wpS_forRange (I:=fun x c av=>av=st/\∃last ofs,c=(none,last,ofs)/\last<ofs/\x+1<=ofs/\last<hint+1/\fY left (key k) (ky key arr (base+(hint-last)))=false)
   (Q:=fun c av=>av=st/\∃last ofs,c=(none,last,ofs)/\last<ofs/\last<hint+1/\fY left (key k) (ky key arr (base+(hint-last)))=false/\(hint+1<=ofs∨(ofs<=hint/\fY left (key k) (ky key arr (base+(hint-ofs)))=true))) ?step ?fin ⟨rfl,0,1,rfl,by omega,by omega,by omega,e⟩) ?post)
  case post=>
   intro c eV
   refine ae.go ?_
   rintro rfl last ofs rfl c1 c2 c3 c4
   refine H (last,ofs,hint+1-min ofs (hint+1),hint-last) ⟨⟨?_,Jq (Nat.sub_le _ _) (Uy hh)⟩,fun i hi =>?_,fun i i1 i2=>dn (hint-last) i i1 i2 c3⟩
   ·show hint+1-min ofs (hint+1)<=hint-last
    rw[<-Nat.succ_sub_succ hint last]
    exact Nat.sub_le_sub_left (Nat.le_min.mpr ⟨c1,c2⟩) _
   have hi:i<hint+1-min ofs (hint+1):=hi
   rcases c4 with c4|⟨c4,c5⟩
   ·rw[Nat.min_eq_right c4,Nat.sub_self] at hi
    exact absurd hi (Nat.not_lt_zero _)
   ·rw[Yu (Nat.le_succ_of_le c4),Nat.succ_sub c4] at hi
    exact up i (hint-ofs) (Wd hi) (Uc (Nat.sub_le _ _) hh) c5
  case fin=>
   intro c av
   refine ae.go ?_
   rintro rfl last ofs rfl c1 c2 c3 c4
   exact⟨rfl,last,ofs,rfl,c1,c3,c4,.inl (by omega)⟩
  case step=>
   intro x c av _ hx
   refine ae.go ?_
   rintro rfl last ofs rfl c1 c2 c3 c4
   dsimp only[mo2]
   refine jV (fun hge=>wpS_pure ⟨rfl,last,ofs,rfl,c1,c3,c4,.inl hge⟩) fun hge =>?_
   refine wpS_bind (lg hL gc ha hk (by omega) ?_)
   cases e2:fY left (key k) (ky key arr (base+(hint-ofs))) with
   | true=>
    exact wpS_pure ⟨rfl,last,ofs,rfl,c1,c3,c4,.inr ⟨by omega,e2⟩⟩
   | false=>
    exact wpS_pure ⟨rfl,ofs,2*ofs+1,rfl,by omega,by omega,by omega,e2⟩
end
noncomputable def xE:Nat->StateT SortSt Sem Unit:=sortPriv% PySem.Builtin.setMinGallop
noncomputable def xP (st:SortSt)(g:Nat):SortSt:=SortSt.mk' (kindOf st) (arrOf st) (pendingOf st) g (failedOf st)
noncomputable def tU:Array Keyed->Array Keyed->StateT SortSt Sem (Array Keyed):=sortPriv% PySem.Builtin.mergeLo
section
variable {prog:Program}{w:World}{A:Around}{E:Value->Shared->Prop}{s:Shared}{a₀:Array Keyed}{key:Keyed->Int}{kd:SortKind}
noncomputable def Sl (key:Keyed->Int)(l:List Keyed):Prop:=l.Pairwise fun x y=>key x<=key y
structure Kp (st av:SortSt):Prop where
 kind:kindOf av=kindOf st
 arr:arrOf av=arrOf st
 pend:pendingOf av=pendingOf st
 failed:failedOf av=failedOf st
theorem Kp.refl (st:SortSt):Kp st st:=⟨rfl,rfl,rfl,rfl⟩
theorem Kp.IP {st av:SortSt}(h:Kp st av)(g:Nat):Kp st (xP av g):=⟨h.kind,h.arr,h.pend,h.failed⟩
theorem ix {xs:Array Keyed}{i:Nat}{x:Keyed}(h:xs.toList[i]? = some x):xs[i]? = some x:=by rw[<-h,Ub]
theorem fm {xs:Array Keyed}{i:Nat}{x:Keyed}(h:x∈xs.toList.drop i):∃j,i<=j/\j<xs.size/\ky key xs j=key x:=by
 obtain⟨j,hj⟩:=U2.mp h
 rw[List.getElem?_drop] at hj
 have hl:=(Ju.mp hj).1
 rw[Jr] at hl
 exact⟨i+j,by omega,hl,cB (ix hj)⟩
theorem fq {xs:Array Keyed}{i:Nat}{x:Keyed}(h:x∈xs.toList.take i):∃j,j<i/\j<xs.size/\ky key xs j=key x:=by
 obtain⟨j,hj⟩:=U2.mp h
 have hl:=(Ju.mp hj).1
 rw[J3,Jr] at hl
 rw[List.getElem?_take_of_lt (by omega)] at hj
 exact⟨j,by omega,by omega,cB (ix hj)⟩
theorem lT {xs:Array Keyed}{i k:Nat}{x:Keyed}(h:x∈(xs.toList.drop i).take k):∃j,i<=j/\j<i+k/\j<xs.size/\ky key xs j=key x:=by
 obtain⟨j,hj⟩:=U2.mp h
 have hl:=(Ju.mp hj).1
 rw[J3,Uw,Jr] at hl
 rw[List.getElem?_take_of_lt (by omega),List.getElem?_drop] at hj
 exact⟨i+j,by omega,by omega,by omega,cB (ix hj)⟩
theorem yX {xs:Array Keyed}{i:Nat}{p:Keyed}(h:xs[i]? = some p):(xs.toList.drop i).take 1=[p]:=by
 rw[<-Ub] at h
 obtain⟨hl,e⟩:=Ju.mp h
 rw[List.drop_eq_getElem_cons hl,e];rfl
theorem fX {xs:Array Keyed}(h:Sg key xs 0 xs.size):Sl key xs.toList:=by
 refine Yg.mpr fun i j hi hj fV =>?_
 rw[Jr] at hi hj
 have:=h i j (by omega) (by omega) hj
 rwa[cB (getElem?_pos xs i hi),cB (getElem?_pos xs j hj)] at this
structure Mg (key:Keyed->Int)(a b:Array Keyed)(out:List Keyed)(ia ib:Nat):Prop where
 ha:ia<=a.size
 hb:ib<=b.size
 sa:Sg key a 0 a.size
 sb:Sg key b 0 b.size
 perm:(out++(a.toList.drop ia++b.toList.drop ib)).Perm (a.toList++b.toList)
 so:Sl key out
 la:∀x∈out,∀y∈a.toList.drop ia,key x<=key y
 lb:∀x∈out,∀y∈b.toList.drop ib,key x<=key y
theorem Mg.swap {a b:Array Keyed}{out:List Keyed}{ia ib:Nat}(h:Mg key a b out ia ib):Mg key b a out ib ia:=
 ⟨h.hb,h.ha,h.sb,h.sa,((Yi).append_left out).trans (h.perm.trans Yi),h.so,h.lb,h.la⟩
theorem Mg.tA {a b:Array Keyed}{out:List Keyed}{ia ib k:Nat}(h:Mg key a b out ia ib)(hk:ia+k<=a.size)(q:∀j,ia<=j->j<ia+k->ky key a j<=ky key b ib):Mg key a b (out++(a.toList.drop ia).take k) (ia+k) ib:=by
 have e:a.toList.drop ia=(a.toList.drop ia).take k++a.toList.drop (ia+k):=by
  rw[<-List.drop_drop,Yj]
 have sd:Sl key (a.toList.drop ia):=(fX h.sa).sublist (We _ _)
 rw[e] at sd
 obtain⟨s1,s2,s3⟩:=J9.mp sd
 refine⟨hk,h.hb,h.sa,h.sb,?_,?_,?_,?_⟩
 ·have p:=h.perm
  rw[e] at p
  rw[Uo] at p ⊢
  exact p
 ·refine J9.mpr ⟨h.so,s1,fun x hx y hy=>h.la x hx y (List.mem_of_mem_take hy)⟩
 ·intro x hx y hy
  rcases Jj.mp hx with hx|hx
  ·exact h.la x hx y (by rw[e];exact Ji _ hy)
  ·exact s3 x hx y hy
 ·intro x hx y hy
  rcases Jj.mp hx with hx|hx
  ·exact h.lb x hx y hy
  ·obtain⟨j,j1,j2,j3,e1⟩:=lT (key:=key) hx
   obtain⟨i,i1,i2,e2⟩:=fm (key:=key) hy
   have:=q j j1 j2
   have:=h.sb ib i (by omega) i1 i2
   omega
theorem Mg.tB {a b:Array Keyed}{out:List Keyed}{ia ib k:Nat}(h:Mg key a b out ia ib)(hk:ib+k<=b.size)(q:∀j,ib<=j->j<ib+k->ky key b j<=ky key a ia):Mg key a b (out++(b.toList.drop ib).take k) ia (ib+k):=
 (h.swap.tA hk q).swap
theorem Mg.ke {a b out:Array Keyed}{ia ib:Nat}{p:Keyed}(h:Mg key a b out.toList ia ib)(e:a[ia]? = some p)(hk:ia<a.size)(q:ky key a ia<=ky key b ib):Mg key a b (out.push p).toList (ia+1) ib:=by
 rw[U9,<-yX e]
 exact h.tA hk fun j j1 j2=>by rw[show j=ia by omega];exact q
theorem Mg.ko {a b out:Array Keyed}{ia ib:Nat}{p:Keyed}(h:Mg key a b out.toList ia ib)(e:b[ib]? = some p)(hk:ib<b.size)(q:ky key b ib<=ky key a ia):Mg key a b (out.push p).toList ia (ib+1):=by
 rw[U9,<-yX e]
 exact h.tB hk fun j j1 j2=>by rw[show j=ib by omega];exact q
theorem ext_toList {xs:Array Keyed}{i k:Nat}(h:i+k<=xs.size):(xs.extract i (i+k)).toList=(xs.toList.drop i).take k:=by
 rw[Array.toList_extract,List.extract_eq_take_drop]
 congr 1;omega
theorem iW {xs:Array Keyed}{i:Nat}:(xs.extract i xs.size).toList=xs.toList.drop i:=by
 rw[Array.toList_extract,List.extract_eq_take_drop]
 refine Y4 ?_
 rw[Uw,Jr];omega
theorem Mg.FF {a b out:Array Keyed}{ia ib k:Nat}(h:Mg key a b out.toList ia ib)(hk:ia+k<=a.size)(q:∀j,ia<=j->j<ia+k->ky key a j<=ky key b ib):Mg key a b (out++a.extract ia (ia+k)).toList (ia+k) ib:=by
 rw[Uu,ext_toList hk]
 exact h.tA hk q
theorem Mg.E5 {a b out:Array Keyed}{ia ib k:Nat}(h:Mg key a b out.toList ia ib)(hk:ib+k<=b.size)(q:∀j,ib<=j->j<ib+k->ky key b j<=ky key a ia):Mg key a b (out++b.extract ib (ib+k)).toList ia (ib+k):=by
 rw[Uu,ext_toList hk]
 exact h.tB hk q
noncomputable def Good (key:Keyed->Int)(a b res:Array Keyed):Prop:=res.toList.Perm (a.toList++b.toList)/\Sl key res.toList
theorem Mg.done {a b out:Array Keyed}{ia ib:Nat}(h:Mg key a b out.toList ia ib)(q:ia=a.size∨ib=b.size):Good key a b (out++a.extract ia a.size++b.extract ib b.size):=by
 unfold Good
 rw[Uu,Uu,iW,iW,Uo]
 refine⟨h.perm,J9.mpr ⟨h.so,J9.mpr ⟨(fX h.sa).sublist (We _ _),(fX h.sb).sublist (We _ _),fun x hx y hy =>?_⟩,fun x hx y hy =>?_⟩⟩
 ·obtain⟨j,j1,j2,_⟩:=fm (key:=key) hx
  obtain⟨i,i1,i2,_⟩:=fm (key:=key) hy
  omega
 ·rcases Jj.mp hy with hy|hy
  ·exact h.la x hx y hy
  ·exact h.lb x hx y hy
theorem Mg.last {a b out:Array Keyed}{ia ib:Nat}(h:Mg key a b out.toList ia ib)(e:ia+1=a.size)(q:∀j,j<b.size->ky key b j<=ky key a (a.size-1)):Good key a b (out++b.extract ib b.size++a.extract ia a.size):=by
 unfold Good
 rw[Uu,Uu,iW,iW,Uo]
 refine⟨(Yi.append_left out.toList).trans h.perm,J9.mpr ⟨h.so,J9.mpr ⟨(fX h.sb).sublist (We _ _),(fX h.sa).sublist (We _ _),fun x hx y hy =>?_⟩,fun x hx y hy =>?_⟩⟩
 ·obtain⟨j,j1,j2,e1⟩:=fm (key:=key) hx
  obtain⟨i,i1,i2,e2⟩:=fm (key:=key) hy
  have:=q j j2
  rw[show a.size-1=i by omega] at this
  omega
 ·rcases Jj.mp hy with hy|hy
  ·exact h.lb x hx y hy
  ·exact h.la x hx y hy
theorem kZ {k x:Int}(h:fY false k x=true):x<=k:=by unfold fY at h;simp at h;exact h
theorem lO {k x:Int}(h:fY false k x=false):k<x:=by unfold fY at h;simp at h;exact h
theorem iY {k x:Int}(h:fY true k x=true):x<k:=by unfold fY at h;simp at h;exact h
theorem iQ {k x:Int}(h:fY true k x=false):k<=x:=by unfold fY at h;simp at h;exact h
end
section
variable {prog:Program}{w:World}{A:Around}{E:Value->Shared->Prop}{s:Shared}{a₀:Array Keyed}{key:Keyed->Int}{kd:SortKind}
theorem cH {α:Type}{xs:Array Keyed}{i:Nat}{f:Keyed->StateT SortSt Sem α}{Q: α->SortSt->Prop}{st:SortSt}(hi:i<xs.size)(h:∀p,xs[i]? = some p->wpS (model prog w) A E s (f p) Q st):wpS (model prog w) A E s (elem' xs i >>= f) Q st:=wpS_bind (fI hi h)
theorem ltB {α:Type}{x y:Keyed}{f:Option Bool->StateT SortSt Sem α}{Q: α->SortSt->Prop}{st:SortSt}(hL:gA prog w A E s a₀ key kd)(hx:x∈a₀.toList)(hy:y∈a₀.toList)(hk:kindOf st=kd)(h:wpS (model prog w) A E s (f (some (decide (key x<key y)))) Q st):wpS (model prog w) A E s (lt' x y >>= f) Q st:=wpS_bind (hL _ _ _ _ hx hy hk h)
theorem iU {α:Type}{left:Bool}{k:Keyed}{arr:Array Keyed}{base n hint:Nat}{st:SortSt}{f:Option Nat->StateT SortSt Sem α}{Q: α->SortSt->Prop}(hL:gA prog w A E s a₀ key kd)(gc:kindOf st=kd)(ha:∀p∈arr.toList,p∈a₀.toList)(hk:k∈a₀.toList)
  (hs:Sg key arr base (base+n)) (hn:base+n<=arr.size) (hh:hint<n) (h:∀r,Ee left (key k) key arr base n r->wpS (model prog w) A E s (f (some r)) Q st):wpS (model prog w) A E s (ql left k arr base n hint >>= f) Q st:=wpS_bind (hU hL gc ha hk hs hn hh h)
theorem CD {α β γ δ ε ζ:Type}{P: α × β × γ × δ × ε × ζ->Prop}(h:∀a b c d e f,P (a,b,c,d,e,f)):∀x,P x:=fun⟨a,b,c,d,e,f⟩=>h a b c d e f
theorem Bz {α β γ δ ε ζ η:Type}{P: α × β × γ × δ × ε × ζ × η->Prop}(h:∀a b c d e f g,P (a,b,c,d,e,f,g)):∀x,P x:=fun⟨a,b,c,d,e,f,g⟩=>h a b c d e f g
theorem px {α:Type}{g:Nat}{f:Unit->StateT SortSt Sem α}{st cv:SortSt}{Q: α->SortSt->Prop}(kp:Kp st cv)(h:∀iw,Kp st iw->wpS (model prog w) A E s (f ()) Q iw):wpS (model prog w) A E s (xE g >>= f) Q cv:=by
 exact wpS_bind (m:=xE g) (wpS_modify (f:=fun s=>xP s g) (h _ (kp.IP g)))
theorem mem_of {xs:Array Keyed}{i:Nat}{p:Keyed}(h:xs[i]? = some p):p∈xs.toList:=Array.mem_toList_iff.mpr (Array.mem_of_getElem? h)
theorem pI {xs:Array Keyed}{i j:Nat}(h:Sg key xs 0 j):Sg key xs i j:=fun p q _ h2 h3=>h p q (Um _) h2 h3
noncomputable abbrev Em (key:Keyed->Int)(a b:Array Keyed)(st:SortSt)(x:Nat)(c:Option (Array Keyed)×Array Keyed×Nat×Nat×Nat)(av:SortSt):Prop:=Kp st av/\∃out ia ib g,c=(none,out,ia,ib,g)/\Mg key a b out.toList ia ib/\x+1<=ia+ib/\ia+1<a.size/\ib<b.size
noncomputable abbrev DE (key:Keyed->Int)(a b:Array Keyed)(st:SortSt)(c:Option (Array Keyed)×Array Keyed×Nat×Nat×Nat)(av:SortSt):Prop:=Kp st av/\∃r,c.1=some r/\Good key a b r
noncomputable abbrev GH (key:Keyed->Int)(a b:Array Keyed)(eV:SortSt)(x:Nat)(y:Nat)(c:Option (Array Keyed)×Array Keyed×Nat×Nat×Nat×Nat)(av:SortSt):Prop:=av=eV/\∃out ia ib p q,c=(none,out,ia,ib,p,q)/\Mg key a b out.toList ia ib/\x+1+y<=ia+ib/\ia+1<a.size/\ib<b.size
noncomputable abbrev Gp (key:Keyed->Int)(a b:Array Keyed)(eV:SortSt)(x:Nat)(c:Option (Array Keyed)×Array Keyed×Nat×Nat×Nat×Nat)(av:SortSt):Prop:=av=eV/\((∃r,c.1=some r/\Good key a b r)∨(c.1=none/\Mg key a b c.2.1.toList c.2.2.1 c.2.2.2.1/\x+2<=c.2.2.1+c.2.2.2.1/\c.2.2.1+1<a.size/\c.2.2.2.1<b.size))
noncomputable abbrev Ed (key:Keyed->Int)(a b:Array Keyed)(st:SortSt)(x:Nat)(y:Nat)(c:Option (Array Keyed)×Array Keyed×Nat×Nat×Nat×Nat×Nat)(av:SortSt):Prop:=Kp st av/\∃out ia ib g p q,c=(none,out,ia,ib,g,p,q)/\Mg key a b out.toList ia ib/\x+2<=ia+ib/\ia+1<a.size/\ib<b.size
noncomputable abbrev Er (key:Keyed->Int)(a b:Array Keyed)(st:SortSt)(x:Nat)(c:Option (Array Keyed)×Array Keyed×Nat×Nat×Nat×Nat×Nat)(av:SortSt):Prop:=Kp st av/\((∃r,c.1=some r/\Good key a b r)∨(c.1=none/\Mg key a b c.2.1.toList c.2.2.1 c.2.2.2.1/\x+2<=c.2.2.1+c.2.2.2.1/\c.2.2.1+1<a.size/\c.2.2.2.1<b.size))
theorem AU {a b:Array Keyed}{st:SortSt}{Q:Array Keyed->SortSt->Prop}(hL:gA prog w A E s a₀ key kd)(hk:kindOf st=kd)(u9:∀p∈a.toList,p∈a₀.toList)(u7:∀p∈b.toList,p∈a₀.toList)
  (rO:Sg key a 0 a.size) (xB:Sg key b 0 b.size) (HW:1<=a.size) (xn:1<=b.size) (h0:ky key b 0<=ky key a 0) (hl:∀j,j<b.size->ky key b j<=ky key a (a.size-1))
  (h:∀res av,Kp st av->Good key a b res->Q res av):wpS (model prog w) A E s (tU a b) Q st:=by
 refine wpS_bind (m:=liftM (rule "list.sort.merge-lo")) (wpS_lift (wpAny_rule ⟨rfl,?_⟩))
 refine cH xn fun p e =>?_
 have mz:Mg key a b (#[]:Array Keyed).toList 0 0:=⟨Um _,Um _,rO,xB,by simp,.nil,(fun _ h=>by cases h),(fun _ h=>by cases h)⟩
 have m0:Mg key a b (#[p]:Array Keyed).toList 0 1:=mz.ko e xn h0
 refine lG (fun z1=>wpS_pure (h _ _ (Kp.refl _) (m0.done (.inr z1)))) fun z1 =>?_
 refine lG (fun z2=>wpS_pure (h _ _ (Kp.refl _) (m0.last z2 hl))) fun z2 =>?_
 refine wpS_bind (wpS_get ?_)
 refine wpS_bind (wpS_mono (wpS_forRange
  (I:=Em key a b st)
  (Q:=DE key a b st) ?step ?fin ⟨Kp.refl _,_,_,_,_,rfl,m0,by omega,by omega,by omega⟩) ?post)
 case post=>
  rintro⟨c1,c⟩ av ⟨kp,r,e1,g⟩
  cases e1
  exact wpS_pure (h _ _ kp g)
 case fin=>
  intro c av
  refine ae.go ?_
  rintro kp out ia ib g rfl mm h1 h2 h3
  rw[Nat.zero_max] at h1
  omega
 case step=>
  intro x c eV _ hx
  refine ae.go ?_
  rintro kp1 out ia ib g rfl mm h1 h2 h3
  dsimp -zeta only
  refine wpS_bind (wpS_mono (wpS_forRange
   (I:=GH key a b eV x)
   (Q:=Gp key a b eV x) ?kO ?fin1 ⟨rfl,out,ia,ib,_,_,rfl,mm,by omega,h2,h3⟩) ?post1)
  case fin1=>
   intro c av
   refine ae.go ?_
   rintro rfl out ia ib p q rfl mm h1 h2 h3
   exact⟨rfl,.inr ⟨rfl,mm,by rw[Nat.zero_max] at h1;show x+2<=ia+ib;omega,h2,h3⟩⟩
  case kO=>
   intro y c av _ hy
   refine ae.go ?_
   rintro rfl out ia ib p q rfl mm h1 h2 h3
   dsimp only
   refine cH h3 fun p1 e1=>cH (Wf h2) fun p2 e2 =>?_
   refine ltB hL (u7 _ (mem_of e1)) (u9 _ (mem_of e2)) (kp1.kind.trans hk) ?_
   rw[<-cB (key:=key) e1,<-cB (key:=key) e2]
   by_cases bP:ky key b ib<ky key a ia
   ·rw[decide_eq_true bP]
    dsimp only
    refine FQ rfl ?_
    refine cH h3 fun p3 e3 =>?_
    have m1:=mm.ko e3 h3 (Yl bP)
    refine lG (fun z3=>wpS_pure ⟨rfl,.inl ⟨_,rfl,m1.done (.inr z3)⟩⟩) fun z3 =>?_
    refine jV (fun z4=>wpS_pure ⟨rfl,.inr ⟨rfl,m1,by show x+2<=ia+(ib+1);omega,h2,Uk h3 z3⟩⟩) fun z4 =>?_
    exact wpS_pure ⟨rfl,_,_,_,_,_,rfl,m1,by omega,h2,Uk h3 z3⟩
   ·rw[decide_eq_false bP]
    dsimp only
    refine C2 Jk ?_
    refine cH (Wf h2) fun p3 e3 =>?_
    have m1:=mm.ke e3 (by omega) (Int.not_lt.mp bP)
    refine lG (fun z3=>wpS_pure ⟨rfl,.inl ⟨_,rfl,m1.last z3 hl⟩⟩) fun z3 =>?_
    refine jV (fun z4=>wpS_pure ⟨rfl,.inr ⟨rfl,m1,by show x+2<=ia+1+ib;omega,Uk h2 z3,h3⟩⟩) fun z4 =>?_
    exact wpS_pure ⟨rfl,_,_,_,_,_,rfl,m1,by omega,Uk h2 z3,h3⟩
  refine CD fun c1 out ia ib p q =>?_
  intro bz hc
  have es:bz=eV:=hc.1
  subst es
  refine Or.elim hc.2 (fun gg =>?_) fun gg =>?_
  ·refine ae.el gg _ ?_
   intro r e1 gd
   have e1:c1=some r:=e1
   subst e1
   exact wpS_pure ⟨kp1,r,rfl,gd⟩
  have e1:c1=none:=gg.1
  have mm:Mg key a b out.toList ia ib:=gg.2.1
  have h1:x+2<=ia+ib:=gg.2.2.1
  have h2:ia+1<a.size:=gg.2.2.2.1
  have h3:ib<b.size:=gg.2.2.2.2
  clear gg hc
  subst e1
  dsimp -zeta only
  refine wpS_bind (wpS_lift (wpAny_rule ⟨rfl,?_⟩))
  refine wpS_bind (wpS_mono (wpS_forRange
   (I:=Ed key a b st x)
   (Q:=Er key a b st x) ?step2 ?fin2 ⟨kp1,out,ia,ib,_,_,_,rfl,mm,by omega,h2,h3⟩) ?post2)
  case fin2=>
   intro c av
   refine ae.go ?_
   rintro kp out ia ib g p q rfl mm h1 h2 h3
   exact⟨kp,.inr ⟨rfl,mm,h1,h2,h3⟩⟩
  case post2=>
   refine Bz fun c1 out ia ib g p q =>?_
   intro cv hc
   have kp:Kp st cv:=hc.1
   refine Or.elim hc.2 (fun gg =>?_) fun gg =>?_
   ·refine ae.el gg _ ?_
    intro r e1 gd
    have e1:c1=some r:=e1
    subst e1
    exact wpS_pure ⟨kp,r,rfl,gd⟩
   have e1:c1=none:=gg.1
   have mm:Mg key a b out.toList ia ib:=gg.2.1
   have h1:x+2<=ia+ib:=gg.2.2.1
   have h2:ia+1<a.size:=gg.2.2.2.1
   have h3:ib<b.size:=gg.2.2.2.2
   clear gg hc
   subst e1
   dsimp only
   exact px kp fun iw kk=>wpS_pure ⟨kk,_,_,_,_,rfl,mm,by omega,h2,h3⟩
  case step2=>
   intro y c cv _ hy
   refine ae.go ?_
   rintro kp out ia ib g p q rfl mm h1 h2 h3
   dsimp -zeta only
   extract_lets s1 o1 s2 i1 s3 i2 s4 mg s5 ac bc ib1 jp mg1
   refine oY (fun z:Nat=>jp () z) (fun _=>True) (fun g' _ =>?_) fun H =>?_
   rotate_left
   ·exact jV (fun _=>H _ trivial) fun _=>H _ trivial
   refine px kp fun iw kk =>?_
   dsimp -zeta only [s1,o1,s2,i1,s3,i2,s4,mg,s5,ac,bc,ib1]
   have CF:kindOf iw=kd:=kk.kind.trans hk
   have eA:ia+(a.size-ia)=a.size:=Yz (Uy (Wf h2))
   refine cH h3 fun p1 e1 =>?_
   refine iU hL CF u9 (u7 _ (mem_of e1)) (by rw[eA];exact pI rO) (Yp eA) (by omega) fun k1 g1 =>?_
   obtain⟨g11,g12,g13⟩:=g1
   rw[<-cB (key:=key) e1] at g12 g13
   dsimp -zeta only
   extract_lets ac2 jp2 o2 i3
   refine oY (fun z:Array Keyed×Nat=>jp2 () z.1 z.2) (fun z=>Mg key a b z.1.toList z.2 ib/\ia<=z.2/\z.2+1<a.size/\ky key b ib<=ky key a z.2) (fun z hz =>?_) fun H =>?_
   rotate_left
   ·refine jV (fun ka =>?_) fun ka =>?_
    ·have Dz:k1>0:=ka
     have kA:ia+k1<=a.size:=Jq (U3 g11 ia) (Yp eA)
     have m1:=mm.FF (k:=k1) kA (fun j j1 j2=>by have:=kZ (g12 (j-ia) (Nat.sub_lt_left_of_lt_add j1 j2));rw[Yz j1] at this;exact this)
     refine lG (fun z1=>wpS_pure ⟨kk,.inl ⟨_,rfl,m1.last z1 hl⟩⟩) fun z1 =>?_
     refine lG (fun z2=>wpS_pure ⟨kk,.inl ⟨_,rfl,m1.done (.inl z2)⟩⟩) fun z2 =>?_
     exact H (o2,i3) ⟨m1,Ur _ _,Uk (Uk kA z2) z1,Yl (lO (g13 k1 (Je _) (by omega)))⟩
    ·exact H (out,ia) ⟨mm,Je _,h2,Yl (lO (g13 0 (by omega) (by omega)))⟩
   obtain⟨out2,ia2⟩:=z
   have m1:Mg key a b out2.toList ia2 ib:=hz.1
   have n1:ia<=ia2:=hz.2.1
   have n2:ia2+1<a.size:=hz.2.2.1
   have n3:ky key b ib<=ky key a ia2:=hz.2.2.2
   clear hz
   refine cH h3 fun p2 e2 =>?_
   have m2:=m1.ko e2 h3 n3
   dsimp -zeta only [ac2]
   extract_lets o3
   refine lG (fun z3=>wpS_pure ⟨kk,.inl ⟨_,rfl,m2.done (.inr z3)⟩⟩) fun z3 =>?_
   have eB:ib+1+(b.size-(ib+1))=b.size:=Yz h3
   have h4:ib+1<b.size:=Uk h3 z3
   refine cH (Wf n2) fun p3 e3 =>?_
   refine iU hL CF u7 (u9 _ (mem_of e3)) (by rw[eB];exact pI xB) (Yp eB) (Nat.sub_pos_of_lt h4) fun k2 g2 =>?_
   obtain⟨g21,g22,g23⟩:=g2
   rw[<-cB (key:=key) e3] at g22 g23
   dsimp -zeta only
   extract_lets bc2 jp3 o4 i4
   refine oY (fun z:Array Keyed×Nat=>jp3 () z.1 z.2) (fun z=>Mg key a b z.1.toList ia2 z.2/\ib<=z.2/\z.2<b.size/\ky key a ia2<=ky key b z.2) (fun z hz =>?_) fun H =>?_
   rotate_left
   ·refine jV (fun kz =>?_) fun kz =>?_
    ·have kB:ib+1+k2<=b.size:=Jq (U3 g21 _) (Yp eB)
     have m3:=m2.E5 (k:=k2) kB (fun j j1 j2=>by have:=iY (g22 (j-(ib+1)) (Nat.sub_lt_left_of_lt_add j1 j2));rw[Yz j1] at this;exact Yl this)
     refine lG (fun z4=>wpS_pure ⟨kk,.inl ⟨_,rfl,m3.done (.inr z4)⟩⟩) fun z4 =>?_
     exact H (o4,i4) ⟨m3,Jq (Yt _) (Ur _ _),Uk kB z4,iQ (g23 k2 (Je _) (by omega))⟩
    ·exact H (o3,ib+1) ⟨m2,Yt _,h4,iQ (g23 0 (by omega) (Nat.sub_pos_of_lt h4))⟩
   obtain⟨out3,ib3⟩:=z
   have m3:Mg key a b out3.toList ia2 ib3:=hz.1
   have n4:ib<=ib3:=hz.2.1
   have n5:ib3<b.size:=hz.2.2.1
   have n6:ky key a ia2<=ky key b ib3:=hz.2.2.2
   clear hz
   refine cH (Wf n2) fun p4 e4 =>?_
   have m4:=m3.ke e4 (by omega) n6
   dsimp only[bc2]
   refine lG (fun z5=>wpS_pure ⟨kk,.inl ⟨_,rfl,m4.last z5 hl⟩⟩) fun z5 =>?_
   refine jV (fun _ =>?_) fun _ =>?_
   ·exact wpS_pure ⟨kk,.inr ⟨rfl,m4,by dsimp only;omega,Uk n2 z5,n5⟩⟩
   ·exact wpS_pure ⟨kk,_,_,_,_,_,_,rfl,m4,by omega,Uk n2 z5,n5⟩
end
noncomputable def uP:Array Keyed->Array Keyed->StateT SortSt Sem (Array Keyed):=sortPriv% PySem.Builtin.mergeHi
section
variable {prog:Program}{w:World}{A:Around}{E:Value->Shared->Prop}{s:Shared}{a₀:Array Keyed}{key:Keyed->Int}{kd:SortKind}
theorem xv {xs:Array Keyed}{n:Nat}(hn:n<=xs.size)(h:Sg key xs 0 xs.size):Sg key xs 0 (0+n):=fun p q h1 h2 h3=>h p q h1 h2 (by omega)
structure Mh (key:Keyed->Int)(a b:Array Keyed)(out:List Keyed)(na nb:Nat):Prop where
 ha:na<=a.size
 hb:nb<=b.size
 sa:Sg key a 0 a.size
 sb:Sg key b 0 b.size
 perm:(a.toList.take na++b.toList.take nb++out.reverse).Perm (a.toList++b.toList)
 so:Sl key out.reverse
 la:∀x∈a.toList.take na,∀y∈out,key x<=key y
 lb:∀x∈b.toList.take nb,∀y∈out,key x<=key y
theorem Mh.swap {a b:Array Keyed}{out:List Keyed}{na nb:Nat}(h:Mh key a b out na nb):Mh key b a out nb na:=
 ⟨h.hb,h.ha,h.sb,h.sa,((Yi).append_right _).trans (h.perm.trans Yi),h.so,h.lb,h.la⟩
theorem t7 {xs:Array Keyed}{t n:Nat}{x:Keyed}(h:x∈(xs.toList.take n).drop t):∃j,t<=j/\j<n/\j<xs.size/\ky key xs j=key x:=by
 rw[List.drop_take] at h
 obtain⟨j,j1,j2,j3,e⟩:=lT (key:=key) h
 exact⟨j,j1,by omega,j3,e⟩
theorem Mh.tA {a b:Array Keyed}{out:List Keyed}{na nb t:Nat}(h:Mh key a b out na nb)(ht:t<=na)(hn:1<=nb)(q:∀j,t<=j->j<na->ky key b (nb-1)<=ky key a j):Mh key a b (out++((a.toList.take na).drop t).reverse) t nb:=by
 have e:a.toList.take na=a.toList.take t++(a.toList.take na).drop t:=by
  have:=Yj t (a.toList.take na)
  rw[List.take_take,Yu ht] at this
  exact this.symm
 have sd:Sl key (a.toList.take na):=(fX h.sa).sublist (Yy _ _)
 rw[e] at sd
 refine ae.el (J9.mp sd) _ ?_
 rintro s1 s2 s3
 have ha:=h.ha
 have hb:=h.hb
 refine⟨by omega,h.hb,h.sa,h.sb,?_,?_,?_,?_⟩
 ·have p:=h.perm
  rw[e,Uo,Uo] at p
  rw[List.reverse_append,List.reverse_reverse,Uo]
  refine U0.trans (U0.append_left _ ?_) p
  rw[<-Uo,<-Uo]
  exact Yi.append_right _
 ·rw[List.reverse_append,List.reverse_reverse]
  exact J9.mpr ⟨s2,h.so,fun x hx y hy=>h.la x (List.mem_of_mem_drop hx) y (Y5.mp hy)⟩
 ·intro x hx y hy
  rcases Jj.mp hy with hy|hy
  ·exact h.la x (by rw[e];exact Jx _ hx) y hy
  ·exact s3 x hx y (Y5.mp hy)
 ·intro x hx y hy
  rcases Jj.mp hy with hy|hy
  ·exact h.lb x hx y hy
  ·obtain⟨j,j1,j2,j3,e1⟩:=t7 (key:=key) (Y5.mp hy)
   obtain⟨i,i1,i2,e2⟩:=fq (key:=key) hx
   have:=q j j1 j2
   have:=h.sb i (nb-1) (by omega) (by omega) (by omega)
   omega
theorem Mh.tB {a b:Array Keyed}{out:List Keyed}{na nb t:Nat}(h:Mh key a b out na nb)(ht:t<=nb)(hn:1<=na)(q:∀j,t<=j->j<nb->ky key a (na-1)<=ky key b j):Mh key a b (out++((b.toList.take nb).drop t).reverse) na t:=
 (h.swap.tA ht hn q).swap
theorem xx {xs:Array Keyed}{n:Nat}{p:Keyed}(hn:1<=n)(h:xs[n-1]? = some p):((xs.toList.take n).drop (n-1)).reverse=[p]:=by
 rw[List.drop_take,show n-(n-1)=1 by omega,yX h];rfl
theorem Mh.ke {a b out:Array Keyed}{na nb:Nat}{p:Keyed}(h:Mh key a b out.toList na nb)(hn:1<=na)(e:a[na-1]? = some p)(hb:1<=nb)(q:ky key b (nb-1)<=ky key a (na-1)):Mh key a b (out.push p).toList (na-1) nb:=by
 rw[U9,<-xx hn e]
 exact h.tA (by omega) hb fun j j1 j2=>by rw[show j=na-1 by omega];exact q
theorem Mh.ko {a b out:Array Keyed}{na nb:Nat}{p:Keyed}(h:Mh key a b out.toList na nb)(hn:1<=nb)(e:b[nb-1]? = some p)(hb:1<=na)(q:ky key a (na-1)<=ky key b (nb-1)):Mh key a b (out.push p).toList na (nb-1):=by
 rw[U9,<-xx hn e]
 exact h.tB (by omega) hb fun j j1 j2=>by rw[show j=nb-1 by omega];exact q
theorem qQ {xs:Array Keyed}{t n:Nat}:(xs.extract t n).toList=(xs.toList.take n).drop t:=by
 rw[Array.toList_extract,List.extract_eq_take_drop,List.drop_take]
theorem Mh.FF {a b out:Array Keyed}{na nb t:Nat}(h:Mh key a b out.toList na nb)(ht:t<=na)(hn:1<=nb)(q:∀j,t<=j->j<na->ky key b (nb-1)<=ky key a j):Mh key a b (out++(a.extract t na).reverse).toList t nb:=by
 rw[Uu,Array.toList_reverse,qQ]
 exact h.tA ht hn q
theorem Mh.E5 {a b out:Array Keyed}{na nb t:Nat}(h:Mh key a b out.toList na nb)(ht:t<=nb)(hn:1<=na)(q:∀j,t<=j->j<nb->ky key a (na-1)<=ky key b j):Mh key a b (out++(b.extract t nb).reverse).toList na t:=by
 rw[Uu,Array.toList_reverse,qQ]
 exact h.tB ht hn q
theorem wg {xs:Array Keyed}{n:Nat}:(xs.extract 0 n).toList=xs.toList.take n:=by rw[qQ,List.drop_zero]
theorem Mh.done {a b out:Array Keyed}{na nb:Nat}(h:Mh key a b out.toList na nb)(q:na=0∨nb=0):Good key a b (a.extract 0 na++b.extract 0 nb++out.reverse):=by
 unfold Good
 rw[Uu,Uu,wg,wg,Array.toList_reverse]
 refine⟨h.perm,J9.mpr ⟨J9.mpr ⟨(fX h.sa).sublist (Yy _ _),(fX h.sb).sublist (Yy _ _),fun x hx y hy =>?_⟩,h.so,fun x hx y hy =>?_⟩⟩
 ·obtain⟨j,j1,j2,_⟩:=fq (key:=key) hx
  obtain⟨i,i1,i2,_⟩:=fq (key:=key) hy
  omega
 ·rcases Jj.mp hx with hx|hx
  ·exact h.la x hx y (Y5.mp hy)
  ·exact h.lb x hx y (Y5.mp hy)
theorem Mh.first {a b out:Array Keyed}{na nb:Nat}(h:Mh key a b out.toList na nb)(e:nb=1)(q:ky key b 0<=ky key a 0):Good key a b (b.extract 0 nb++a.extract 0 na++out.reverse):=by
 unfold Good
 rw[Uu,Uu,wg,wg,Array.toList_reverse]
 refine⟨(Yi.append_right _).trans h.perm,J9.mpr ⟨J9.mpr ⟨(fX h.sb).sublist (Yy _ _),(fX h.sa).sublist (Yy _ _),fun x hx y hy =>?_⟩,h.so,fun x hx y hy =>?_⟩⟩
 ·obtain⟨j,j1,j2,e1⟩:=fq (key:=key) hx
  obtain⟨i,i1,i2,e2⟩:=fq (key:=key) hy
  have:=h.sa 0 i (by omega) (by omega) i2
  rw[show j=0 by omega] at e1
  omega
 ·rcases Jj.mp hx with hx|hx
  ·exact h.lb x hx y (Y5.mp hy)
  ·exact h.la x hx y (Y5.mp hy)
noncomputable abbrev Gy (key:Keyed->Int)(a b:Array Keyed)(st:SortSt)(x:Nat)(c:Option (Array Keyed)×Nat×Nat×Array Keyed×Nat)(av:SortSt):Prop:=Kp st av/\∃na nb out g,c=(none,na,nb,out,g)/\Mh key a b out.toList na nb/\na+nb+x+1<=a.size+b.size/\1<=na/\2<=nb
noncomputable abbrev GB (key:Keyed->Int)(a b:Array Keyed)(st:SortSt)(c:Option (Array Keyed)×Nat×Nat×Array Keyed×Nat)(av:SortSt):Prop:=Kp st av/\∃r,c.1=some r/\Good key a b r
noncomputable abbrev EB (key:Keyed->Int)(a b:Array Keyed)(eV:SortSt)(x:Nat)(y:Nat)(c:Option (Array Keyed)×Nat×Nat×Array Keyed×Nat×Nat)(av:SortSt):Prop:=av=eV/\∃na nb out p q,c=(none,na,nb,out,p,q)/\Mh key a b out.toList na nb/\na+nb+x+1+y<=a.size+b.size/\1<=na/\2<=nb
noncomputable abbrev Eo (key:Keyed->Int)(a b:Array Keyed)(eV:SortSt)(x:Nat)(c:Option (Array Keyed)×Nat×Nat×Array Keyed×Nat×Nat)(av:SortSt):Prop:=av=eV/\((∃r,c.1=some r/\Good key a b r)∨(c.1=none/\Mh key a b c.2.2.2.1.toList c.2.1 c.2.2.1/\c.2.1+c.2.2.1+x+2<=a.size+b.size/\1<=c.2.1/\2<=c.2.2.1))
noncomputable abbrev GF (key:Keyed->Int)(a b:Array Keyed)(st:SortSt)(x:Nat)(y:Nat)(c:Option (Array Keyed)×Nat×Nat×Array Keyed×Nat×Nat×Nat)(av:SortSt):Prop:=Kp st av/\∃na nb out g p q,c=(none,na,nb,out,g,p,q)/\Mh key a b out.toList na nb/\na+nb+x+2<=a.size+b.size/\1<=na/\2<=nb
noncomputable abbrev FJ (key:Keyed->Int)(a b:Array Keyed)(st:SortSt)(x:Nat)(c:Option (Array Keyed)×Nat×Nat×Array Keyed×Nat×Nat×Nat)(av:SortSt):Prop:=Kp st av/\((∃r,c.1=some r/\Good key a b r)∨(c.1=none/\Mh key a b c.2.2.2.1.toList c.2.1 c.2.2.1/\c.2.1+c.2.2.1+x+2<=a.size+b.size/\1<=c.2.1/\2<=c.2.2.1))
theorem A0 {a b:Array Keyed}{st:SortSt}{Q:Array Keyed->SortSt->Prop}(hL:gA prog w A E s a₀ key kd)(hk:kindOf st=kd)(u9:∀p∈a.toList,p∈a₀.toList)(u7:∀p∈b.toList,p∈a₀.toList)
  (rO:Sg key a 0 a.size) (xB:Sg key b 0 b.size) (HW:1<=a.size) (xn:1<=b.size) (h0:ky key b 0<=ky key a 0) (hl:∀j,j<b.size->ky key b j<=ky key a (a.size-1))
  (h:∀res av,Kp st av->Good key a b res->Q res av):wpS (model prog w) A E s (uP a b) Q st:=by
 refine wpS_bind (m:=liftM (rule "list.sort.merge-hi")) (wpS_lift (wpAny_rule ⟨rfl,?_⟩))
 refine cH (by omega) fun p e =>?_
 have mz:Mh key a b (#[]:Array Keyed).toList a.size b.size:=⟨Je _,Je _,rO,xB,by rw[<-Jr,<-Jr,J0,J0];simp,.nil,(fun _ _ _ h=>by cases h),(fun _ _ _ h=>by cases h)⟩
 have m0:Mh key a b (#[p]:Array Keyed).toList (a.size-1) b.size:=mz.ke HW e xn (hl _ (by omega))
 refine lG (fun z1=>wpS_pure (h _ _ (Kp.refl _) (m0.done (.inl z1)))) fun z1 =>?_
 refine lG (fun z2=>wpS_pure (h _ _ (Kp.refl _) (m0.first z2 h0))) fun z2 =>?_
 refine wpS_bind (wpS_get ?_)
 refine wpS_bind (wpS_mono (wpS_forRange
  (I:=Gy key a b st)
  (Q:=GB key a b st) ?step ?fin ⟨Kp.refl _,_,_,_,_,rfl,m0,by omega,by omega,by omega⟩) ?post)
 case post=>
  rintro⟨c1,c⟩ av ⟨kp,r,e1,g⟩
  cases e1
  exact wpS_pure (h _ _ kp g)
 case fin=>
  intro c av
  refine ae.go ?_
  rintro kp na nb out g rfl mm h1 h2 h3
  rw[Nat.zero_max] at h1
  omega
 case step=>
  intro x c eV _ hx
  refine ae.go ?_
  rintro kp1 na nb out g rfl mm h1 h2 h3
  have ua:=mm.ha
  have ub:=mm.hb
  dsimp -zeta only
  refine wpS_bind (wpS_mono (wpS_forRange
   (I:=EB key a b eV x)
   (Q:=Eo key a b eV x) ?kO ?fin1 ⟨rfl,na,nb,out,_,_,rfl,mm,by omega,h2,h3⟩) ?post1)
  case fin1=>
   intro c av
   refine ae.go ?_
   rintro rfl na nb out p q rfl mm h1 h2 h3
   exact⟨rfl,.inr ⟨rfl,mm,by rw[Nat.zero_max] at h1;dsimp only;omega,h2,h3⟩⟩
  case kO=>
   intro y c av _ hy
   refine ae.go ?_
   rintro rfl na nb out p q rfl mm h1 h2 h3
   have ua:=mm.ha
   have ub:=mm.hb
   dsimp only
   have la:na-1<a.size:=Yx h2 mm.ha
   have ye:1<=nb:=Nat.le_of_succ_le h3
   have lb:nb-1<b.size:=Yx ye mm.hb
   refine cH (by first|assumption|omega) fun p1 e1=>cH (by first|assumption|omega) fun p2 e2 =>?_
   refine ltB hL (u7 _ (mem_of e1)) (u9 _ (mem_of e2)) (kp1.kind.trans hk) ?_
   rw[<-cB (key:=key) e1,<-cB (key:=key) e2]
   by_cases bP:ky key b (nb-1)<ky key a (na-1)
   ·rw[decide_eq_true bP]
    dsimp only
    refine FQ rfl ?_
    refine cH (by first|assumption|omega) fun p3 e3 =>?_
    have m1:=mm.ke h2 e3 ye (by first|exact Yl bP|omega)
    refine lG (fun z3=>wpS_pure ⟨rfl,.inl ⟨_,rfl,m1.done (.inl z3)⟩⟩) fun z3 =>?_
    refine jV (fun z4=>wpS_pure ⟨rfl,.inr ⟨rfl,m1,by dsimp only;omega,by dsimp only;omega,h3⟩⟩) fun z4 =>?_
    exact wpS_pure ⟨rfl,_,_,_,_,_,rfl,m1,by omega,by omega,h3⟩
   ·rw[decide_eq_false bP]
    dsimp only
    refine C2 Jk ?_
    refine cH (by first|assumption|omega) fun p3 e3 =>?_
    have m1:=mm.ko ye e3 h2 (Int.not_lt.mp bP)
    refine lG (fun z3=>wpS_pure ⟨rfl,.inl ⟨_,rfl,m1.first z3 h0⟩⟩) fun z3 =>?_
    refine jV (fun z4=>wpS_pure ⟨rfl,.inr ⟨rfl,m1,by dsimp only;omega,h2,by dsimp only;omega⟩⟩) fun z4 =>?_
    exact wpS_pure ⟨rfl,_,_,_,_,_,rfl,m1,by omega,h2,by omega⟩
  refine CD fun c1 na nb out p q =>?_
  intro bz hc
  have es:bz=eV:=hc.1
  subst es
  refine Or.elim hc.2 (fun gg =>?_) fun gg =>?_
  ·refine ae.el gg _ ?_
   intro r e1 gd
   have e1:c1=some r:=e1
   subst e1
   exact wpS_pure ⟨kp1,r,rfl,gd⟩
  have e1:c1=none:=gg.1
  have mm:Mh key a b out.toList na nb:=gg.2.1
  have h1:na+nb+x+2<=a.size+b.size:=gg.2.2.1
  have h2:1<=na:=gg.2.2.2.1
  have h3:2<=nb:=gg.2.2.2.2
  clear gg hc
  subst e1
  dsimp -zeta only
  refine wpS_bind (wpS_lift (wpAny_rule ⟨rfl,?_⟩))
  refine wpS_bind (wpS_mono (wpS_forRange
   (I:=GF key a b st x)
   (Q:=FJ key a b st x) ?step2 ?fin2 ⟨kp1,na,nb,out,_,_,_,rfl,mm,by omega,h2,h3⟩) ?post2)
  case fin2=>
   intro c av
   refine ae.go ?_
   rintro kp na nb out g p q rfl mm h1 h2 h3
   exact⟨kp,.inr ⟨rfl,mm,h1,h2,h3⟩⟩
  case post2=>
   refine Bz fun c1 na nb out g p q =>?_
   intro cv hc
   have kp:Kp st cv:=hc.1
   refine Or.elim hc.2 (fun gg =>?_) fun gg =>?_
   ·refine ae.el gg _ ?_
    intro r e1 gd
    have e1:c1=some r:=e1
    subst e1
    exact wpS_pure ⟨kp,r,rfl,gd⟩
   have e1:c1=none:=gg.1
   have mm:Mh key a b out.toList na nb:=gg.2.1
   have h1:na+nb+x+2<=a.size+b.size:=gg.2.2.1
   have h2:1<=na:=gg.2.2.2.1
   have h3:2<=nb:=gg.2.2.2.2
   clear gg hc
   subst e1
   dsimp only
   exact px kp fun iw kk=>wpS_pure ⟨kk,_,_,_,_,rfl,mm,by omega,h2,h3⟩
  case step2=>
   intro y c cv _ hy
   refine ae.go ?_
   rintro kp na nb out g p q rfl mm h1 h2 h3
   have ua:=mm.ha
   have ub:=mm.hb
   dsimp -zeta only
   extract_lets s1 o1 s2 i1 s3 i2 s4 mg s5 ac bc ib1 jp mg1
   refine oY (fun z:Nat=>jp () z) (fun _=>True) (fun g' _ =>?_) fun H =>?_
   rotate_left
   ·exact jV (fun _=>H _ trivial) fun _=>H _ trivial
   refine px kp fun iw kk =>?_
   dsimp -zeta only [s1,o1,s2,i1,s3,i2,s4,mg,s5,ac,bc,ib1]
   have CF:kindOf iw=kd:=kk.kind.trans hk
   have ye:1<=nb:=Nat.le_of_succ_le h3
   have lb:nb-1<b.size:=Yx ye ub
   refine cH lb fun p1 e1 =>?_
   refine iU hL CF u9 (u7 _ (mem_of e1)) (xv ua rO) (by rw[Nat.zero_add];exact ua) (Nat.sub_one_lt (Wb h2)) fun k1 g1 =>?_
   obtain⟨g11,g12,g13⟩:=g1
   rw[<-cB (key:=key) e1] at g12 g13
   simp only[Nat.zero_add] at g12 g13
   dsimp -zeta only
   extract_lets kx ac2 jp2 o2 na2
   refine oY (fun z:Nat×Array Keyed=>jp2 () z.1 z.2) (fun z=>Mh key a b z.2.toList z.1 nb/\1<=z.1/\z.1<=na/\ky key a (z.1-1)<=ky key b (nb-1)) (fun z hz =>?_) fun H =>?_
   rotate_left
   ·refine jV (fun ka =>?_) fun ka =>?_
    ·have Dz:na-k1>0:=ka
     have m1:=mm.FF (t:=k1) g11 ye (fun j j1 j2=>Yl (lO (g13 j j1 j2)))
     refine lG (fun z1=>wpS_pure ⟨kk,.inl ⟨_,rfl,m1.done (.inl z1)⟩⟩) fun z1 =>?_
     have z2:¬k1=0:=z1
     exact H (na2,o2) ⟨m1,Nat.pos_of_ne_zero z2,g11,kZ (g12 (k1-1) (Nat.sub_one_lt z2))⟩
    ·have Dz:¬na-k1>0:=ka
     exact H (na,out) ⟨mm,h2,Je _,kZ (g12 (na-1) (Yx h2 (Nat.le_of_sub_eq_zero (Nat.eq_zero_of_not_pos Dz))))⟩
   obtain⟨na3,out2⟩:=z
   have m1:Mh key a b out2.toList na3 nb:=hz.1
   have n1:1<=na3:=hz.2.1
   have n2:na3<=na:=hz.2.2.1
   have n3:ky key a (na3-1)<=ky key b (nb-1):=hz.2.2.2
   clear hz
   refine cH lb fun p2 e2 =>?_
   have m2:=m1.ko ye e2 n1 n3
   dsimp -zeta only [ac2,kx]
   extract_lets o3
   refine lG (fun z3=>wpS_pure ⟨kk,.inl ⟨_,rfl,m2.first z3 h0⟩⟩) fun z3 =>?_
   have HP:na3-1<a.size:=Yx n1 (Jq n2 ua)
   have HD:2<=nb-1:=by omega
   have Hh:0<nb-1:=Jy Nat.one_pos (Nat.le_of_succ_le HD)
   refine cH HP fun p3 e3 =>?_
   refine iU hL CF u7 (u9 _ (mem_of e3)) (xv (Uy lb) xB) (by rw[Nat.zero_add];exact Uy lb) (Nat.sub_one_lt (Wb Hh)) fun k2 g2 =>?_
   obtain⟨g21,g22,g23⟩:=g2
   rw[<-cB (key:=key) e3] at g22 g23
   simp only[Nat.zero_add] at g22 g23
   dsimp -zeta only
   extract_lets ky2 bc2 jp3 o4 nb4
   refine oY (fun z:Nat×Array Keyed=>jp3 () z.1 z.2) (fun z=>Mh key a b z.2.toList na3 z.1/\2<=z.1/\z.1<=nb/\ky key b (z.1-1)<=ky key a (na3-1)) (fun z hz =>?_) fun H =>?_
   rotate_left
   ·refine jV (fun kz =>?_) fun kz =>?_
    ·have G9:nb-1-k2>0:=kz
     have m3:=m2.E5 (t:=k2) g21 n1 (fun j j1 j2=>iQ (g23 j j1 j2))
     refine lG (fun z4=>wpS_pure ⟨kk,.inl ⟨_,rfl,m3.first z4 h0⟩⟩) fun z4 =>?_
     refine lG (fun z7=>wpS_pure ⟨kk,.inl ⟨_,rfl,m3.done (.inr z7)⟩⟩) fun z7 =>?_
     have y4:¬k2=1:=z4
     have y7:¬k2=0:=z7
     exact H (nb4,o4) ⟨m3,by show 2<=k2;omega,Jq g21 (Nat.sub_le _ _),Yl (iY (g22 (k2-1) (Nat.sub_one_lt y7)))⟩
    ·have G9:¬nb-1-k2>0:=kz
     exact H (nb-1,o3) ⟨m2,HD,Nat.sub_le _ _,Yl (iY (g22 (nb-1-1) (Yx Hh (Nat.le_of_sub_eq_zero (Nat.eq_zero_of_not_pos G9)))))⟩
   obtain⟨nb3,out3⟩:=z
   have m3:Mh key a b out3.toList na3 nb3:=hz.1
   have n4:2<=nb3:=hz.2.1
   have n5:nb3<=nb:=hz.2.2.1
   have n6:ky key b (nb3-1)<=ky key a (na3-1):=hz.2.2.2
   clear hz
   dsimp only[jp3]
   refine cH HP fun p4 e4 =>?_
   have m4:=m3.ke n1 e4 (Nat.le_of_succ_le n4) n6
   dsimp only[bc2,ky2]
   refine lG (fun z5=>wpS_pure ⟨kk,.inl ⟨_,rfl,m4.done (.inl z5)⟩⟩) fun z5 =>?_
   refine jV (fun _=>wpS_pure ⟨kk,.inr ⟨rfl,m4,by dsimp only;omega,Nat.pos_of_ne_zero z5,n4⟩⟩) fun _ =>?_
   exact wpS_pure ⟨kk,_,_,_,_,_,_,rfl,m4,by omega,Nat.pos_of_ne_zero z5,n4⟩
end
section
variable {prog:Program}{w:World}{A:Around}{E:Value->Shared->Prop}{s:Shared}{a₀:Array Keyed}{key:Keyed->Int}{kd:SortKind}
theorem vN {M:Model}{σ:Type}{st av: σ}{Q:PUnit -> σ->Prop}(h:Q ⟨⟩ av):wpS M A E s (set av:StateT σ Sem PUnit) Q st:=by
 unfold wpS
 rw[StateT.run_set];exact wpAny_pure ⟨rfl,h⟩
theorem uA {sa:Nat}:∀(l:List Keyed) (n:Nat) (xs:Array Keyed),sa+n+l.length<=xs.size->∀k:Nat,
  ((l.zipIdx n).foldl (fun a (p:Keyed×Nat)=>a.setIfInBounds (sa+p.2) p.1) xs)[k]? = if sa+n<=k/\k<sa+n+l.length then l[k-(sa+n)]? else xs[k]?
 | [],n,xs,h,k=>by rw[List.zipIdx_nil,List.foldl_nil,if_neg (by simp only[Ys];omega)]
 | p::l,n,xs,h,k=>by
  rw[J1] at h
  rw[List.zipIdx_cons,List.foldl_cons,uA l (n+1) _ (by rw[Array.size_setIfInBounds];omega),J1]
  by_cases e1:sa+(n+1)<=k/\k<sa+(n+1)+l.length
  ·rw[if_pos e1,if_pos (by omega),show k-(sa+n)=(k-(sa+(n+1)))+1 by omega,List.getElem?_cons_succ]
  ·rw[if_neg e1,Array.getElem?_setIfInBounds]
   by_cases e2:sa+n=k
   ·subst e2
    rw[if_pos rfl,if_pos (by omega),if_pos (by omega),Nat.sub_self];rfl
   ·rw[if_neg e2,if_neg (by omega)]
noncomputable def wr (sa:Nat)(l:List Keyed)(xs:Array Keyed):Array Keyed:=l.zipIdx.foldl (fun a (p:Keyed×Nat)=>a.setIfInBounds (sa+p.2) p.1) xs
theorem uU {sa:Nat}{l:List Keyed}{xs:Array Keyed}(h:sa+l.length<=xs.size)(k:Nat):(wr sa l xs)[k]? = if sa<=k/\k<sa+l.length then l[k-sa]? else xs[k]?:=uA l 0 xs h k
theorem wW {sa:Nat}{l:List Keyed}{xs:Array Keyed}(h:sa+l.length<=xs.size):(wr sa l xs).toList=xs.toList.take sa++(l++xs.toList.drop (sa+l.length)):=by
 refine List.ext_getElem? fun k =>?_
 have hl:(xs.toList.take sa).length=sa:=by rw[J3,Jr];omega
 rw[Ub,uU h]
 by_cases e1:k<sa
 ·rw[if_neg (by omega),Uh (by omega),List.getElem?_take_of_lt e1,Ub]
 ·rw[Ua (by omega),hl]
  by_cases e2:k<sa+l.length
  ·rw[if_pos (by omega),Uh (by omega)]
  ·rw[if_neg (by omega),Ua (by omega),List.getElem?_drop,<-Ub]
   congr 1;omega
theorem wa {sa:Nat}{l:List Keyed}{xs:Array Keyed}(h:sa+l.length<=xs.size)(hp:l.Perm ((xs.toList.drop sa).take l.length)):(wr sa l xs).Perm xs:=by
 refine Y7.mpr ?_
 rw[wW h]
 have e:xs.toList=xs.toList.take sa++((xs.toList.drop sa).take l.length++xs.toList.drop (sa+l.length)):=by
  rw[<-List.drop_drop,Yj,Yj]
 exact((hp.append_right _).append_left _).trans (U0.of_eq e.symm)
theorem ip {xs:Array Keyed}{i j k:Nat}(hj:j<=xs.size)(hk:i+k<j):ky key (xs.extract i j) k=ky key xs (i+k):=by
 refine cE ?_
 rw[Array.getElem?_extract,if_pos (by omega)]
theorem uq {xs:Array Keyed}{i j:Nat}(hj:j<=xs.size)(fV:i<=j)(h:Sg key xs i j):Sg key (xs.extract i j) 0 (xs.extract i j).size:=by
 rw[Array.size_extract,Yu hj]
 intro p q _ h2 h3
 rw[ip hj (by omega),ip hj (by omega)]
 exact h _ _ (by omega) (by omega) (by omega)
theorem pG {xs:Array Keyed}{i j:Nat}{p:Keyed}(h:p∈(xs.extract i j).toList):p∈xs.toList:=by
 rw[qQ] at h
 exact List.mem_of_mem_take (List.mem_of_mem_drop h)
structure Tb (a₀:Array Keyed)(kd:SortKind)(st:SortSt):Prop where
 perm:(arrOf st).Perm a₀
 kind:kindOf st=kd
 failed:failedOf st=none
theorem qz {xs:Array Keyed}{res:List Keyed}{sa u sb v e:Nat}(h1:sa<=u)(h2:u<=sb)(h3:sb<=v)(h4:v<=e)(h5:e<=xs.size)(h6:sa<sb)(len:u+res.length=v)(gp:res.Perm ((xs.toList.drop u).take res.length))(gs:res.Pairwise fun a b=>key a<=key b)
  (s1:Sg key xs sa sb) (s2:Sg key xs sb e) (hA:∀p,sa<=p->p<u->ky key xs p<=ky key xs sb) (hB:∀q,v<=q->q<e->ky key xs (sb-1)<=ky key xs q):Sg key (wr u res xs) sa e:=by
 have at':=uU (sa:=u) (l:=res) (xs:=xs) (by omega)
 have jO:∀p,(p<u∨v<=p)->ky key (wr u res xs) p=ky key xs p:=fun p hp'=>by
  refine cE ?_
  rw[at' p,if_neg (by omega)]
 have gU:∀p,u<=p->p<v->∃x,res[p-u]? = some x/\ky key (wr u res xs) p=key x:=fun p a1 a2=>by
  obtain⟨x,hx⟩:∃x,res[p-u]? = some x:=⟨_,Jf (by omega)⟩
  exact⟨x,hx,cB ((at' p).trans ((if_pos (by omega)).trans hx))⟩
 have hm:∀p,u<=p->p<v->∃j,u<=j/\j<v/\ky key (wr u res xs) p=ky key xs j:=fun p a1 a2=>by
  refine ae.el (gU p a1 a2) _ ?_
  rintro x hx ex
  have Bb:=gp.mem_iff.mp (U2.mpr ⟨_,hx⟩)
  obtain⟨j,j1,j2,j3,e4⟩:=lT (key:=key) Bb
  exact⟨j,j1,by omega,by omega⟩
 have sl:sb-1<sb:=by omega
 intro p q g1 g2 g3
 by_cases a1:q<u
 ·have a0:=Uc g2 a1
  rw[jO p (.inl a0),jO q (.inl a1)];exact s1 p q g1 g2 (Jy a1 h2)
 have a1:=Yv a1
 by_cases a2:q<v
 ·by_cases a3:p<u
  ·refine ae.el (hm q a1 a2) _ ?_
   rintro j j1 j2 ej
   rw[jO p (.inl a3),ej]
   by_cases a4:j<sb
   ·exact s1 p j g1 (Jq (Uy a3) j1) a4
   ·exact Int.le_trans (hA p g1 a3) (s2 sb j (Je _) (Yv a4) (Jy j2 h4))
  ·have a3:=Yv a3
   refine ae.el (gU p a3 (Uc g2 a2)) _ ?_
   rintro x hx ex
   refine ae.el (gU q a1 a2) _ ?_
   rintro y hy ey
   rw[ex,ey]
   by_cases a5:p=q
   ·subst a5
    rw[hx] at hy;cases hy;exact Yb _
   ·obtain⟨l1,e5⟩:=Ju.mp hx
    obtain⟨l2,e6⟩:=Ju.mp hy
    have:=Yg.mp gs _ _ l1 l2 (Nat.sub_lt_sub_right a3 (Uk g2 a5))
    rw[e5,e6] at this;exact this
 ·have a2:=Yv a2
  rw[jO q (.inr a2)]
  have hq:=hB q a2 g3
  by_cases a3:p<u
  ·rw[jO p (.inl a3)]
   exact Int.le_trans (s1 p (sb-1) g1 (by omega) sl) hq
  ·by_cases a4:p<v
   ·refine ae.el (hm p (Yv a3) a4) _ ?_
    rintro j j1 j2 ej
    rw[ej]
    by_cases a5:j<sb
    ·exact Int.le_trans (s1 j (sb-1) (Jq h1 j1) (by omega) sl) hq
    ·exact s2 j q (Yv a5) (Jq (Uy j2) a2) g3
   ·have a4:=Yv a4
    rw[jO p (.inr a4)]
    exact s2 p q (Jq h3 a4) g2 g3
theorem o8 {st:SortSt}{i sa na sb nb p1 p2:Nat}{L R:List (Nat×Nat×Nat)}{Q:Bool->SortSt->Prop}(hL:gA prog w A E s a₀ key kd)(hT:Tb a₀ kd st)
  (hp:(pendingOf st).toList=L++(sa,na,p1)::(sb,nb,p2)::R) (hi:L.length=i) (e1:sb=sa+na) (n1:1<=na) (n2:1<=nb) (hz:sb+nb<=a₀.size)
  (s1:Sg key (arrOf st) sa sb) (s2:Sg key (arrOf st) sb (sb+nb))
  (h:∀av,Tb a₀ kd av->(pendingOf av).toList=L++(sa,na+nb,p1)::R->(∀k,k<sa∨sb+nb<=k->(arrOf av)[k]? = (arrOf st)[k]?)->Sg key (arrOf av) sa (sb+nb)->Q true av) :
  wpS (model prog w) A E s (mergeAt' i) Q st:=by
 have hsz:=hT.perm.size_eq
 have g1:(pendingOf st)[i]? = some (sa,na,p1):=by
  rw[<-Ub,hp,Ua (by omega),hi,Nat.sub_self];rfl
 have g2:(pendingOf st)[i+1]? = some (sb,nb,p2):=by
  rw[<-Ub,hp,Ua (by omega),hi,show i+1-i=1 by omega];rfl
 have hP:(((pendingOf st).setIfInBounds i (sa,na+nb,p1)).eraseIdxIfInBounds (i+1)).toList=L++(sa,na+nb,p1)::R:=by
  have bP:i+1<((pendingOf st).setIfInBounds i (sa,na+nb,p1)).size:=by
   rw[Array.size_setIfInBounds,<-Jr,hp,Jg,J1,J1];omega
  rw[Array.eraseIdxIfInBounds,dif_pos bP,Array.toList_eraseIdx,Array.toList_setIfInBounds,hp]
  rw[List.set_append_right _ _ (by omega),hi,Nat.sub_self,List.set_cons_zero,List.eraseIdx_append_of_length_le (by omega),hi,show i+1-i=1 by omega]
  rfl
 refine wpS_bind (m:=get) (wpS_get ?_)
 dsimp only
 rw[g1,g2]
 dsimp only
 refine wpS_bind (vN ?_)
 have am:∀p∈(arrOf st).toList,p∈a₀.toList:=fun p h'=>(Y7.mp hT.perm).mem_iff.mp h'
 refine wpS_bind (fI (xs:=arrOf st) (by omega) fun q1 f1 =>?_)
 refine wpS_bind (hU (arr:=arrOf st) hL (show kindOf (setPending st _)=kd from hT.kind) am (am _ (mem_of f1)) (by rw[<-e1];exact s1) (by omega) (by omega) fun k gk =>?_)
 obtain⟨k1,k2,k3⟩:=gk
 rw[<-cB (key:=key) f1] at k2 k3
 obtain⟨d,rfl⟩:∃d,na=k+d:=Nat.exists_eq_add_of_le k1
 have eD:sb=sa+k+d:=by omega
 have hA:∀p,sa<=p->p<sa+k->ky key (arrOf st) p<=ky key (arrOf st) sb:=fun p h1 h2=>by
  have:=kZ (k2 (p-sa) (by omega));rwa[show sa+(p-sa)=p by omega] at this
 dsimp only
 rw[Y0]
 refine lG (fun z1 =>?_) fun z1 =>?_
 ·refine wpS_pure (h _ ⟨hT.perm,hT.kind,hT.failed⟩ hP (fun _ _=>rfl) fun p q h1 h2 h3 =>?_)
  show ky key (arrOf st) p<=ky key (arrOf st) q
  by_cases c1:q<sb
  ·exact s1 p q h1 h2 c1
  ·by_cases c2:sb<=p
   ·exact s2 p q c2 h2 h3
   ·exact Int.le_trans (hA p h1 (by omega)) (s2 sb q (Je _) (by omega) h3)
 have d1:1<=d:=Nat.pos_of_ne_zero z1
 refine wpS_bind (fI (xs:=arrOf st) (by omega) fun q2 f2 =>?_)
 refine wpS_bind (hU (arr:=arrOf st) hL (show kindOf (setPending st _)=kd from hT.kind) am (am _ (mem_of f2)) s2 (by omega) (by omega) fun m gm =>?_)
 obtain⟨m1,m2,m3⟩:=gm
 rw[<-cB (key:=key) f2,<-eD] at m2 m3
 have hB:∀q,sb+m<=q->q<sb+nb->ky key (arrOf st) (sb-1)<=ky key (arrOf st) q:=fun q h1 h2=>by
  have:=iQ (m3 (q-sb) (by omega) (by omega));rwa[show sb+(q-sb)=q by omega] at this
 dsimp only
 have hC:=lO (k3 k (Je _) (by omega))
 by_cases z2:m=0
 ·have:=hB sb (by omega) (by omega)
  have:=s1 (sa+k) (sb-1) (by omega) (by omega) (by omega)
  omega
 refine C2 (by simpa using z2) ?_
 have x1:((arrOf st).extract (sa+k) sb).size=d:=by rw[Array.size_extract,Yu (by omega),eD,Y0]
 have y1:((arrOf st).extract sb (sb+m)).size=m:=by rw[Array.size_extract,Yu (by omega),Y0]
 have sx:=uq (key:=key) (xs:=arrOf st) (i:=sa+k) (j:=sb) (by omega) (by omega) (fun p q h1 h2 h3=>s1 p q (by omega) h2 h3)
 have sy:=uq (key:=key) (xs:=arrOf st) (i:=sb) (j:=sb+m) (by omega) (by omega) (fun p q h1 h2 h3=>s2 p q h1 h2 (by omega))
 have h0:ky key ((arrOf st).extract sb (sb+m)) 0<=ky key ((arrOf st).extract (sa+k) sb) 0:=by
  rw[ip (by omega) (by omega),ip (by omega) (by omega)]
  exact Yl hC
 have hl:∀j,j<((arrOf st).extract sb (sb+m)).size->ky key ((arrOf st).extract sb (sb+m)) j<=ky key ((arrOf st).extract (sa+k) sb) (((arrOf st).extract (sa+k) sb).size-1):=fun j hj=>by
  rw[y1] at hj
  rw[x1,ip (by omega) (by omega),ip (by omega) (by omega),show sa+k+(d-1)=sb-1 by rw[eD,Nat.add_sub_assoc d1]]
  have:=iY (m2 j hj);omega
 have wb:∀(res:Array Keyed) (bz:SortSt),Kp (setPending st (((pendingOf st).setIfInBounds i (sa,k+d+nb,p1)).eraseIdxIfInBounds (i+1))) bz->Good key ((arrOf st).extract (sa+k) sb) ((arrOf st).extract sb (sb+m)) res->Q true (setArr bz (wr (sa+k) res.toList (arrOf bz))):=fun res bz kp gd=>by
  have ea:arrOf bz=arrOf st:=kp.arr
  obtain⟨gp,gs⟩:=gd
  have len:res.toList.length=d+m:=by rw[gp.length_eq,Jg,Jr,Jr,x1,y1]
  have hw:sa+k+res.toList.length<=(arrOf st).size:=by omega
  have eM:((arrOf st).extract (sa+k) sb).toList++((arrOf st).extract sb (sb+m)).toList=((arrOf st).toList.drop (sa+k)).take res.toList.length:=by
   rw[qQ,qQ,List.drop_take,List.drop_take,len,Y0,show sb-(sa+k)=d by rw[eD,Y0],List.take_add,List.drop_drop,<-eD]
  refine h _ ⟨?_,kp.kind.trans hT.kind,kp.failed.trans hT.failed⟩ ?_ (fun p hp' =>?_) fun p q h1 h2 h3 =>?_
  ·show(wr (sa+k) res.toList (arrOf bz)).Perm a₀
   rw[ea]
   exact(wa hw (gp.trans (U0.of_eq eM))).trans hT.perm
  ·show(pendingOf bz).toList=_
   rw[kp.pend];exact hP
  ·show(wr (sa+k) res.toList (arrOf bz))[p]? = _
   rw[ea,uU hw p,if_neg (by omega)]
  ·show ky key (wr (sa+k) res.toList (arrOf bz)) p<=ky key (wr (sa+k) res.toList (arrOf bz)) q
   rw[ea]
   exact qz (Ur _ _) (Jq (Ur _ _) (Yp eD.symm)) (Ur _ _) (U3 m1 _) (Jq hz (Yp hsz.symm)) (by omega) (by omega) (gp.trans (U0.of_eq eM)) gs s1 s2 hA hB p q h1 h2 h3
 have u9:∀p∈((arrOf st).extract (sa+k) sb).toList,p∈a₀.toList:=fun p hp'=>am _ (pG hp')
 have u7:∀p∈((arrOf st).extract sb (sb+m)).toList,p∈a₀.toList:=fun p hp'=>am _ (pG hp')
 have tl:∀(res:Array Keyed) (bz:SortSt),Kp (setPending st (((pendingOf st).setIfInBounds i (sa,k+d+nb,p1)).eraseIdxIfInBounds (i+1))) bz->Good key ((arrOf st).extract (sa+k) sb) ((arrOf st).extract sb (sb+m)) res ->
   wpS (model prog w) A E s (do
    modify fun s=>setArr s (wr (sa+k) res.toList (arrOf s))
    return (failedOf (<-get)).isNone) Q bz:=fun res bz kp gd=>by
  refine wpS_bind (wpS_modify (wpS_bind (wpS_get (wpS_pure ?_))))
  have ef:failedOf (setArr bz (wr (sa+k) res.toList (arrOf bz)))=none:=kp.failed.trans hT.failed
  rw[ef]
  exact wb res bz kp gd
 refine jV (fun _ =>?_) fun _ =>?_
 ·exact wpS_bind (AU (a:=(arrOf st).extract (sa+k) sb) (b:=(arrOf st).extract sb (sb+m)) hL (show kindOf (setPending st _)=kd from hT.kind) u9 u7 sx sy (by omega) (by omega) h0 hl fun res bz kp gd=>tl res bz kp gd)
 ·exact wpS_bind (A0 (a:=(arrOf st).extract (sa+k) sb) (b:=(arrOf st).extract sb (sb+m)) hL (show kindOf (setPending st _)=kd from hT.kind) u9 u7 sx sy (by omega) (by omega) h0 hl fun res bz kp gd=>tl res bz kp gd)
end
section
variable {prog:Program}{w:World}{A:Around}{E:Value->Shared->Prop}{s:Shared}{a₀:Array Keyed}{key:Keyed->Int}{kd:SortKind}
noncomputable def fD (key:Keyed->Int)(xs:Array Keyed):Nat->List (Nat×Nat×Nat)->Nat->Prop
 | lo,[],hi=>lo=hi
 | lo,(s,n,_)::t,hi=>s=lo/\1<=n/\Sg key xs lo (lo+n)/\fD key xs (lo+n) t hi
theorem fD.le {xs:Array Keyed}:∀{L:List (Nat×Nat×Nat)} {lo hi:Nat},fD key xs lo L hi->lo+L.length<=hi
 | [],lo,hi,h=>by have h:lo=hi:=h;simp -iota only [Ys];omega
 | (s,n,p)::t,lo,hi,h=>by
  obtain⟨_,h1,_,h2⟩:=h
  have:=h2.le
  rw[J1];omega
theorem fD.app {xs:Array Keyed}:∀{L R:List (Nat×Nat×Nat)} {lo mid hi:Nat},fD key xs lo L mid->fD key xs mid R hi->fD key xs lo (L++R) hi
 | [],R,lo,mid,hi,h,h'=>by have h:lo=mid:=h;rw[h];exact h'
 | (s,n,p)::t,R,lo,mid,hi,h,h'=>⟨h.1,h.2.1,h.2.2.1,h.2.2.2.app h'⟩
theorem fD.cut {xs:Array Keyed}:∀{L R:List (Nat×Nat×Nat)} {lo hi:Nat},fD key xs lo (L++R) hi->∃mid,fD key xs lo L mid/\fD key xs mid R hi
 | [],R,lo,hi,h=>⟨lo,rfl,h⟩
 | (s,n,p)::t,R,lo,hi,h=>by
  obtain⟨mid,h1,h2⟩:=fD.cut (L:=t) h.2.2.2
  exact⟨mid,⟨h.1,h.2.1,h.2.2.1,h1⟩,h2⟩
theorem qd {xs ys:Array Keyed}{i j:Nat}(e:∀k,i<=k->k<j->ys[k]? = xs[k]?)(h:Sg key xs i j):Sg key ys i j:=fun p q h1 h2 h3=>by
 rw[cE (e p h1 (by omega)),cE (e q (by omega) h3)];exact h p q h1 h2 h3
theorem fD.same {xs ys:Array Keyed}:∀{L:List (Nat×Nat×Nat)} {lo hi:Nat},(∀k,lo<=k->k<hi->ys[k]? = xs[k]?)->fD key xs lo L hi->fD key ys lo L hi
 | [],lo,hi,e,h=>h
 | (s,n,p)::t,lo,hi,e,h=>by
  obtain⟨h0,h1,h2,h3⟩:=h
  have:=h3.le
  exact⟨h0,h1,qd (fun k a b=>e k a (by omega)) h2,fD.same (fun k a b=>e k (by omega) b) h3⟩
theorem kE {st:SortSt}{i hi:Nat}{Q:Bool->SortSt->Prop}(hL:gA prog w A E s a₀ key kd)(hT:Tb a₀ kd st)(hc:fD key (arrOf st) 0 (pendingOf st).toList hi)(hz:hi<=a₀.size)(rN:i+1<(pendingOf st).size)
  (h:∀av,Tb a₀ kd av->fD key (arrOf av) 0 (pendingOf av).toList hi->(pendingOf av).size+1=(pendingOf st).size->(∀k,hi<=k->(arrOf av)[k]? = (arrOf st)[k]?)->Q true av):wpS (model prog w) A E s (mergeAt' i) Q st:=by
 have hl:i+1<(pendingOf st).toList.length:=by rw[Jr];exact rN
 obtain⟨⟨sa,na,p1⟩,e1⟩:∃y,(pendingOf st).toList[i]'(by omega)=y:=⟨_,rfl⟩
 obtain⟨⟨sb,nb,p2⟩,e2⟩:∃y,(pendingOf st).toList[i+1]'hl=y:=⟨_,rfl⟩
 have ep:(pendingOf st).toList=(pendingOf st).toList.take i++(sa,na,p1)::(sb,nb,p2)::(pendingOf st).toList.drop (i+2):=by
  have d1:=List.drop_eq_getElem_cons (i:=i) (l:=(pendingOf st).toList) (by omega)
  have d2:=List.drop_eq_getElem_cons (i:=i+1) (l:=(pendingOf st).toList) hl
  rw[e1] at d1
  rw[e2] at d2
  rw[<-d2,<-d1,Yj]
 have jT:=hc
 rw[ep] at jT
 refine ae.el (jT.cut) _ ?_
 rintro mid c1 c2
 obtain⟨rfl,n1,s1,c3⟩:=c2
 obtain⟨rfl,n2,s2,c4⟩:=c3
 have K7:=c4.le
 refine o8 hL hT ep (by rw[J3];omega) rfl n1 n2 (by omega) s1 s2 fun av t' p' o' s' =>?_
 refine h av t' ?_ ?_ (fun k hk=>o' k (.inr (by omega)))
 ·rw[p']
  refine fD.app (mid:=sa) (c1.same fun k _ hk=>o' k (.inl hk)) ⟨rfl,by omega,?_,?_⟩
  ·rw[<-Nat.add_assoc];exact s'
  ·rw[<-Nat.add_assoc];exact c4.same fun k hk _=>o' k (.inr hk)
 ·have l1:=congrArg Ue p'
  have l2:=congrArg Ue ep
  rw[Jr] at l1 l2
  rw[l1,l2]
  simp -iota only [Jg,J1]
  omega
theorem fD.pow {xs:Array Keyed}{f:Nat×Nat×Nat->Nat×Nat×Nat}(hf:∀y,(f y).1=y.1/\(f y).2.1=y.2.1):∀{L:List (Nat×Nat×Nat)} {i lo hi:Nat},fD key xs lo L hi->fD key xs lo (L.modify i f) hi
 | [],i,lo,hi,h=>by rw[List.modify_nil];exact h
 | (s,n,p)::t,0,lo,hi,h=>by
  rw[List.modify_zero_cons]
  obtain⟨e1,e2⟩:=hf (s,n,p)
  generalize f (s,n,p)=y at e1 e2
  obtain⟨y1,y2,y3⟩:=y
  dsimp only at e1 e2
  subst e1 e2
  exact h
 | (s,n,p)::t,i+1,lo,hi,h=>by
  rw[List.modify_succ_cons]
  exact⟨h.1,h.2.1,h.2.2.1,fD.pow hf h.2.2.2⟩
theorem wt {c:Prop}[Decidable c]{n:Nat}(h:1<n):(if c then n-2-1 else n-2)+1<n:=by
 by_cases z:c
 ·rw[if_pos z];omega
 ·rw[if_neg z];omega
theorem Bu {α γ:Type}{m:StateT SortSt Sem α}{Q: α->SortSt->Prop}{st:SortSt}(V: γ->StateT SortSt Sem α)(G: γ->SortSt->Prop)(hV:∀z st,G z st->wpS (model prog w) A E s (V z) Q st)
  (hm:(∀z st,G z st->wpS (model prog w) A E s (V z) Q st)->wpS (model prog w) A E s m Q st):wpS (model prog w) A E s m Q st:=hm hV
theorem vD {st:SortSt}{Q:Unit->SortSt->Prop}(hL:gA prog w A E s a₀ key kd)(hT:Tb a₀ kd st)(hp:pendingOf st = #[])
  (h:∀av,Tb a₀ kd av->Sg key (arrOf av) 0 a₀.size->Q () av):wpS (model prog w) A E s sortRuns' Q st:=by
 have hsz:=hT.perm.size_eq
 rw[sortRuns'_eq]
 refine wpS_bind (wpS_get ?_)
 dsimp -zeta only
 rw[hsz]
 refine wpS_bind (wpS_mono (wpS_forRange
  (I:=fun x c av=>∃lo,c=(none,lo)/\Tb a₀ kd av/\fD key (arrOf av) 0 (pendingOf av).toList lo/\lo<=a₀.size/\(x<=lo∨lo=a₀.size))
  (Q:=fun c av=>c=(none,a₀.size)/\Tb a₀ kd av/\fD key (arrOf av) 0 (pendingOf av).toList a₀.size) ?step ?fin ⟨0,rfl,hT,by rw[hp];rfl,Um _,.inl (Je _)⟩) ?post)
 case fin=>
  intro c av
  refine ae.go ?_
  rintro lo rfl t ch h1 h2
  have:lo=a₀.size:=by omega
  subst this
  exact⟨rfl,t,ch⟩
 case post=>
  intro c eV
  refine ae.go ?_
  rintro rfl t1 ch1
  dsimp only
  refine wpS_bind (wpS_mono (wpS_forRange
   (I:=fun x c av=>c=(none,())/\Tb a₀ kd av/\fD key (arrOf av) 0 (pendingOf av).toList a₀.size/\((pendingOf av).size<=1∨(pendingOf av).size+x<=a₀.size))
   (Q:=fun c av=>c=(none,())/\Tb a₀ kd av/\fD key (arrOf av) 0 (pendingOf av).toList a₀.size/\(pendingOf av).size<=1) ?step2 ?fin2 ⟨rfl,t1,ch1,.inr (by have:=ch1.le;rw[Jr] at this;omega)⟩) ?post2)
  case fin2=>
   intro c av
   refine ae.go ?_
   rintro rfl t ch hs
   exact⟨rfl,t,ch,by omega⟩
  case post2=>
   intro c av
   refine ae.go ?_
   rintro rfl t ch hs
   refine wpS_pure (h av t ?_)
   cases e:(pendingOf av).toList with
   | nil=>
    rw[e] at ch
    have ch:0=a₀.size:=ch
    intro p q _ _ h3;omega
   | cons y r=>
    have hl:(pendingOf av).toList.length<=1:=by rw[Jr];exact hs
    rw[e] at ch hl
    have hr:r=[]:=by
     cases r with
     | nil=>rfl
     | cons _ _=>simp -iota only [J1] at hl;omega
    subst hr
    obtain⟨y1,y2,y3⟩:=y
    obtain⟨_,_,g1,g2⟩:=ch
    have g2:0+y2=a₀.size:=g2
    rw[g2] at g1;exact g1
  case step2=>
   intro x c av _ hx
   refine ae.go ?_
   rintro rfl t ch hs
   refine wpS_bind (wpS_get ?_)
   by_cases z:(pendingOf av).size<=1
   ·rw[if_pos z]
    exact wpS_pure ⟨rfl,t,ch,z⟩
   ·rw[if_neg z]
    refine wpS_bind (kE hL t ch (Je _) (wt (by omega)) fun bz t2 ch2 Hy _ =>?_)
    exact wpS_pure ⟨rfl,t2,ch2,by omega⟩
 case step=>
  intro x c eV _ hx
  refine ae.go ?_
  rintro lo rfl t1 ch1 h1 h2
  dsimp -zeta only
  extract_lets l0 jp fc n2
  refine jV (fun z =>?_) fun z =>?_
  ·have:lo=a₀.size:=Y2 h1 z
   subst this
   exact wpS_pure ⟨rfl,t1,ch1⟩
  have z:¬lo>=a₀.size:=z
  have tl:∀(n:Nat) (bz:SortSt),Tb a₀ kd bz->1<=n->lo+n<=a₀.size->Sg key (arrOf bz) lo (lo+n)->∀p:Array (Nat×Nat×Nat),fD key (arrOf bz) 0 p.toList lo ->
    Tb a₀ kd (setPending bz (p.push (lo,n,0)))/\fD key (arrOf bz) 0 (p.push (lo,n,0)).toList (lo+n):=fun n bz t2 n1 n2 s2 p hp'=>by
   refine⟨⟨t2.perm,t2.kind,t2.failed⟩,?_⟩
   rw[U9]
   exact hp'.app ⟨rfl,n1,s2,rfl⟩
  have af:Af a₀ kd lo eV eV:=⟨t1.perm,t1.kind,t1.failed,rfl,fun _ _=>rfl⟩
  have back:∀{bz:SortSt},Af a₀ kd lo eV bz->Tb a₀ kd bz/\fD key (arrOf bz) 0 (pendingOf bz).toList lo:=fun{bz} f=>⟨⟨f.perm,f.kind,f.failed⟩,by rw[f.pend];exact ch1.same fun k _ hk=>f.low k hk⟩
  refine Bu (fun n:Nat=>jp () n) (fun n bz=>Af a₀ kd lo eV bz/\1<=n/\lo+n<=a₀.size/\Sg key (arrOf bz) lo (lo+n)) (fun m bz hz =>?_) fun H =>?_
  rotate_left
  ·refine wpS_bind (uQ hL (by omega) (by omega) af fun m bz f2 m1 m2 s2 =>?_)
   dsimp only[l0,fc,n2]
   refine jV (fun zm =>?_) fun zm =>?_
   ·refine wpS_bind (wpS_lift (wpAny_rule ⟨rfl,?_⟩))
    refine wpS_bind (zr hL (by omega) (by omega) f2 s2 fun cv f3 s3 =>?_)
    simp -iota only [Bool.not_true,J6,if_false]
    exact H _ cv ⟨f3,by omega,by omega,s3⟩
   ·exact H _ bz ⟨f2,m1,by omega,s2⟩
  obtain⟨f2,m1,m2,s2⟩:=hz
  have b2:=back f2
  refine wpS_bind (wpS_get ?_)
  dsimp only[l0]
  cases hb:(pendingOf bz).back? with
  | none=>
   dsimp only
   obtain⟨u1,u2⟩:=tl m bz b2.1 m1 m2 s2 (pendingOf bz) b2.2
   exact wpS_bind (wpS_modify (wpS_pure ⟨_,rfl,u1,u2,m2,.inl (by omega)⟩))
  | some y=>
   obtain⟨y1,y2,y3⟩:=y
   dsimp only
   refine wpS_bind (wpS_mono (wpS_forRange
    (I:=fun _ c av=>c=(none,())/\Tb a₀ kd av/\fD key (arrOf av) 0 (pendingOf av).toList lo/\Sg key (arrOf av) lo (lo+m))
    (Q:=fun c av=>c=(none,())/\Tb a₀ kd av/\fD key (arrOf av) 0 (pendingOf av).toList lo/\Sg key (arrOf av) lo (lo+m)) ?step4 (fun _ _ hh=>hh) ⟨rfl,b2.1,b2.2,s2⟩) ?post4)
   case post4=>
    intro c cG
    refine ae.go ?_
    rintro rfl t5 c5 s5
    dsimp only
    have c6:fD key (arrOf cG) 0 ((pendingOf cG).modify ((pendingOf cG).size-1) fun z=>(z.1,z.2.1,power' a₀.size (2*y1+y2) (2*y1+y2+y2+m) a₀.size)).toList lo:=by
     rw[Array.toList_modify]
     refine fD.pow (fun _ =>?_) c5
     exact⟨rfl,rfl⟩
    obtain⟨u1,u2⟩:=tl m cG t5 m1 m2 s5 _ c6
    exact wpS_bind (wpS_modify (wpS_bind (wpS_modify (wpS_pure ⟨_,rfl,u1,u2,m2,.inl (by omega)⟩))))
   case step4=>
    intro x5 c cG _ _
    refine ae.go ?_
    rintro rfl t5 c5 s5
    refine wpS_bind (wpS_get ?_)
    by_cases z5:(pendingOf cG).size>1
    ·have HU:(pendingOf cG).size-2<(pendingOf cG).size:=by omega
     rw[if_pos z5,getElem?_pos (pendingOf cG) ((pendingOf cG).size-2) HU]
     obtain⟨⟨v1,v2,v3⟩,ev⟩:∃v,(pendingOf cG)[(pendingOf cG).size-2]'HU=v:=⟨_,rfl⟩
     rw[ev]
     dsimp only
     refine jV (fun _=>wpS_pure ⟨rfl,t5,c5,s5⟩) fun _ =>?_
     refine wpS_bind (kE hL t5 c5 h1 (by omega) fun nQ t6 c6 _ o6 =>?_)
     exact wpS_pure ⟨rfl,t6,c6,qd (fun k hk _=>o6 k hk) s5⟩
    ·rw[if_neg z5]
     exact wpS_pure ⟨rfl,t5,c5,s5⟩
end
section
variable {X:Cx}{pos:Pos}
noncomputable def tu:TE:=fun _ H Q=>∀p H',dz H p (.dK []) H'->Q (.ref p) H'
theorem qr:PE X (.Dict [] [] pos) tu:=by
 have e:tu=tK:=by
  funext σ H Q
  exact(iK (F:=fun p H'=>Q (.ref p) H')).symm
 rw[e];exact si
end
section
variable {X:Cx}
theorem vt:dC X (binaryOp .Mult) (fun x y H Q=>∃(z:Str) (n:Int),x = .str z/\y = .int n/\MulOk z n/\Q (.str (Txt.mul z n)) H):=by
 intro pins s σ H x y v u Q I rx ry h
 obtain⟨z,n,rfl,rfl,ok,q⟩:=h
 obtain⟨t,rfl⟩:=rx
 obtain⟨t',rfl⟩:=ry
 exact SB.mul ok fun t' k=>⟨.str _,H,I.tok _,⟨_,rfl⟩,q⟩
noncomputable def Cz:R2:=fun x y H Q=>xk x y H Q∨∃(z:Str) (n:Int),x = .str z/\y = .int n/\MulOk z n/\Q (.str (Txt.mul z n)) H
theorem yu:dC X (binaryOp .Mult) Cz:=lX.or vt
theorem fh {z:Str}{n:Int}(h1:z.length<=1000)(h2:n<=1000)(h3: -1000<=n):MulOk z n:=by
 refine⟨?_,fun a _ =>?_,fun a _ =>?_⟩
 ·rw[decide_eq_false (by omega),decide_eq_false (by omega)];rfl
 ·have:(1000:Int)<=(2^63-1) / n:=by
   rw[Int.le_ediv_iff_mul_le (by omega)]
   omega
  omega
 ·have:z.length*n.toNat<=1000*1000:=Nat.mul_le_mul h1 (by omega)
  show decide (_>sizeLine)=false
  simp
  exact Jq this (by decide)
end
noncomputable def oneMore {K:Type}[DecidableEq K](D:List K)(k:K):List K:=if k∈D then D else D++[k]
noncomputable def bB {K:Type}[DecidableEq K](ks:Nat->K):Nat->List K
 | 0=>[]
 | i+1=>oneMore (bB ks i) (ks i)
theorem gr {K:Type}[DecidableEq K](ks:Nat->K):∀i,(bB ks i).length<=i
 | 0=>Je _
 | i+1=>by
  have:=gr ks i
  unfold bB oneMore
  split
  ·omega
  ·rw[Jg];exact Nat.succ_le_succ this
section
variable {prog:Program}{w:World}{K:Type}[DecidableEq K]{knd:PySem.KeyKind prog w K}
noncomputable def gS (knd:PySem.KeyKind prog w K)(h:Heap)(a:Addr)(D:List K):Prop:=h.SetOf knd a (fun k=>decide (k∈D)) D.length
theorem gS.at' {h h':Heap}{a:Addr}{D:List K}(x:gS knd h a D)(k:∀o,h.get? a=some o->h'.get? a=some o):gS knd h' a D:=by
 obtain⟨o,es,ep,t,e,r⟩:=x
 exact⟨o,es,ep,t,k _ e,r⟩
variable {A:Around}{R:Result->Shared->Prop}{I:Addr}{fp wr:List Addr}{G:Array GenState->Array GenState->Prop}{n:Nat}{P:Nat->Value->Prop}{St:Nat->Shared->Prop}
end
noncomputable abbrev bK (led:Bool):Obj:={ cls := .type "set",dict:=none,data := .set #[] 0 (.fresh 0 0 led) }
noncomputable def nK (zs:List Str):List Str:=bB (fun i=>zs.getD i Str.empty) zs.length
noncomputable def Up (xs:List Nat):Prop:=xs.Pairwise (· < ·)
theorem Up.lt {xs:Array Nat}(h:Up xs.toList){i j:Nat}(hj:j<xs.size)(fV:i<j):xs[i]<xs[j]:=by
 have:=Yg.mp h i j (by simpa using Nat.lt_trans fV hj) (by simpa using hj) fV
 simpa using this
structure Cut (xs:Array Nat)(j p:Nat):Prop where
 le:p<=xs.size
 lo:∀i (h:i<xs.size),i<p->xs[i]<j
 hi:∀i (h:i<xs.size),p<=i->j<=xs[i]
theorem i7 {xs:Array Nat}(u:Up xs.toList)(j:Nat):∀(fuel lo hi:Nat),hi-lo<=fuel->lo<=hi->hi<=xs.size->(∀i (h:i<xs.size),i<lo->xs[i]<j)->(∀i (h:i<xs.size),hi<=i->j<=xs[i])->Cut xs j (SetTable.below.go xs j fuel lo hi)
 | 0,lo,hi,hf,hl,hs,h1,h2=>by
  have e:lo=hi:=by omega
  unfold SetTable.below.go
  subst e
  exact⟨hs,h1,h2⟩
 | fuel+1,lo,hi,hf,hl,hs,h1,h2=>by
  unfold SetTable.below.go
  by_cases bP:lo<hi
  ·rw[if_pos bP]
   have hm:(lo+hi) / 2<xs.size:=by omega
   have e:xs.getD ((lo+hi) / 2) j=xs[(lo+hi) / 2]:=by simp[Array.getD,hm]
   dsimp only
   rw[e]
   by_cases hc:xs[(lo+hi) / 2]<j
   ·rw[if_pos hc]
    refine i7 u j fuel _ _ (by omega) (by omega) hs (fun i h gD =>?_) h2
    by_cases q:i=(lo+hi) / 2
    ·subst q;exact hc
    ·exact Nat.lt_trans (u.lt hm (by omega)) hc
   ·rw[if_neg hc]
    refine i7 u j fuel _ _ (by omega) (by omega) (by omega) h1 (fun i h gD =>?_)
    by_cases q:i=(lo+hi) / 2
    ·subst q;omega
    ·have:=u.lt h (show(lo+hi) / 2<i by omega)
     omega
  ·rw[if_neg bP]
   have e:lo=hi:=by omega
   subst e
   exact⟨hs,h1,h2⟩
theorem dX {xs:Array Nat}(u:Up xs.toList)(j:Nat):Cut xs j (SetTable.below xs j):=
 i7 u j _ _ _ (by omega) (Um _) (Je _) (fun i h z=>absurd z (Nat.not_lt_zero _)) fun i h z=>absurd h (by omega)
theorem Cut.next {xs:Array Nat}{p i:Nat}(u:Up xs.toList)(h:i<xs.size)(c:Cut xs (xs[i]+1) p):p=i+1:=by
 have h1:¬p<i+1:=fun z=>by have:=c.hi i h (by omega);omega
 have h2:¬i+1<p:=fun z=>by
  have hs:i+1<xs.size:=by have:=c.le;omega
  have a:=c.lo (i+1) hs z
  have b:=u.lt hs (Nat.lt_succ_self i)
  omega
 omega
noncomputable def cn (t:SetTable):Prop:=t.dummies = #[]/\Up t.place.toList
theorem oU {a b:Nat}{led:Bool}:cn (SetTable.fresh a b led):=⟨rfl,List.Pairwise.nil⟩
theorem d7 (t:SetTable)(n:Nat):cn (t.standIn n):=⟨rfl,by
 show List.Pairwise _ (Array.range n).toList
 rw[Array.toList_range]
 exact List.pairwise_lt_range⟩
theorem has_none (j:Nat):SetTable.has #[] j=false:=by
 unfold SetTable.has
 simp
theorem qM {t:SetTable}(g:cn t)(j:Nat):t.slot j = .empty∨∃i,t.slot j = .live i:=by
 unfold SetTable.slot
 dsimp only
 split
 ·exact .inr ⟨_,rfl⟩
 ·rw[g.1,has_none]
  exact .inl rfl
theorem q0 {t:SetTable}(g:cn t){j:Nat}(h:t.slot j = .empty):j∉t.place.toList:=fun hm=>by
 obtain⟨i,hi,e⟩:=Yc.mp hm
 have gD:i<t.place.size:=by simpa using hi
 have e':t.place[i]=j:=by simpa using e
 have c:=dX g.2 j
 have hp:SetTable.below t.place j=i:=by
  have h1:¬i<SetTable.below t.place j:=fun z=>by have:=c.lo i gD z;omega
  have h2:¬SetTable.below t.place j<i:=fun z=>by
   have hs:SetTable.below t.place j<t.place.size:=by omega
   have a:=c.hi _ hs (Je _)
   have b:=g.2.lt gD z
   omega
  omega
 unfold SetTable.slot at h
 dsimp only at h
 rw[hp,J8 gD,e'] at h
 simp at h
theorem je {t:SetTable}(g:cn t){h:Int}{j:Nat}{d:Option Nat}:∀(fuel:Nat) (p:SetTable.Probe),p.dummy=none->SetTable.probe.go t (fun _=>h+1) h fuel p=some (.empty j d)->t.slot j = .empty/\d=none
 | 0,p,hp,e=>by unfold SetTable.probe.go at e;cases e
 | fuel+1,p,hp,e=>by
  unfold SetTable.probe.go at e
  rcases qM g p.j with q|⟨i,q⟩
  ·rw[q] at e
   dsimp only at e
   cases e
   exact⟨q,hp⟩
  ·rw[q] at e
   dsimp only at e
   rw[if_neg (by rw[beq_iff_eq];omega)] at e
   refine je g fuel _ ?_ e
   unfold SetTable.advance
   split
   ·exact hp
   ·exact hp
theorem uT {t:SetTable}(g:cn t){j:Nat}(h:t.slot j = .empty):cn (t.put j).1:=by
 have hn:=q0 g h
 have c:=dX g.2 j
 unfold SetTable.put
 refine⟨?_,?_⟩
 ·show(if SetTable.has t.dummies j=true then _ else t.dummies) = #[]
  rw[g.1,has_none,if_neg Jk]
 ·show Up (SetTable.insertAt t.place _ j).toList
  rw[SetTable.toList_insertAt]
  have u:Up t.place.toList:=g.2
  refine J9.mpr ⟨List.Pairwise.sublist (Yy _ _) u,List.pairwise_cons.mpr ⟨fun x hx =>?_,List.Pairwise.sublist (We _ _) u⟩,fun x hx y hy =>?_⟩
  ·obtain⟨i,hi,e⟩:=Yc.mp hx
   rw[List.getElem_drop] at e
   have gD:SetTable.below t.place j+i<t.place.size:=by rw[Uw] at hi;simp at hi;omega
   have:=c.hi _ gD (Ur _ _)
   have e':t.place[SetTable.below t.place j+i]=x:=by simpa using e
   have iB:j≠x:=fun z=>hn (by rw[z];exact List.mem_of_mem_drop hx)
   omega
  ·have Ku:x<j:=by
    obtain⟨i,hi,e⟩:=Yc.mp hx
    rw[List.getElem_take] at e
    rw[J3] at hi
    have gD:i<t.place.size:=by simp at hi;omega
    have:=c.lo i gD (by omega)
    have e':t.place[i]=x:=by simpa using e
    omega
   rcases Ug.mp hy with rfl|hy
   ·exact Ku
   ·obtain⟨i,hi,e⟩:=Yc.mp hy
    rw[List.getElem_drop] at e
    have gD:SetTable.below t.place j+i<t.place.size:=by rw[Uw] at hi;simp at hi;omega
    have:=c.hi _ gD (Ur _ _)
    have e':t.place[SetTable.below t.place j+i]=y:=by simpa using e
    omega
theorem vW {t:SetTable}(g:cn t)(n:Nat):cn (t.orStandIn n):=by
 unfold SetTable.orStandIn
 split
 ·exact g
 ·exact d7 t n
theorem tP {t:SetTable}(g:cn t)(es:Array (Int×Value))(h:Int)(x:Value):cn (layNew t es h x).2.1/\(layNew t es h x).2.1.led=t.led:=by
 unfold layNew
 split
 ·rename_i slot wasDummy hs
  dsimp only
  have p0:t.slot slot = .empty:=by
   unfold SetTable.freeSlot at hs
   split at hs
   ·rename_i j d hp
    unfold SetTable.probe at hp
    obtain⟨h1,h2⟩:=je g _ _ rfl hp
    subst h2
    cases hs
    exact h1
   ·cases hs
  refine⟨vW (uT g p0) _,?_⟩
  unfold SetTable.orStandIn
  split<;>rfl
 ·exact⟨d7 t _,rfl⟩
theorem jc {β:Type}(f:Nat->Option β):∀l:List Nat,List.Sublist ((l.filterMap fun j=>(f j).map (j, ·)).map (·.1)) l
 | []=>List.Sublist.refl _
 | j::l=>by
  rw[List.filterMap_cons]
  cases f j with
  | none=>exact List.Sublist.cons _ (jc f l)
  | some b=>exact List.Sublist.cons_cons _ (jc f l)
theorem qY {mask finger moves:Nat}{led plain:Bool}{hs:Array Int}{t:SetTable}{order:Array Nat}(e:SetTable.laid mask finger moves led plain hs=some (t,order)):cn t/\t.led=led:=by
 unfold SetTable.laid at e
 cases q:SetTable.layClean mask hs with
 | none=>rw[q] at e;cases e
 | some owner=>
  rw[q] at e
  cases e
  refine⟨⟨rfl,?_⟩,rfl⟩
  exact List.Pairwise.sublist (jc _ _) List.pairwise_lt_range
theorem o5 {t:SetTable}(es:Array (Int×Value))(n:Nat):cn (relayAll t es n).2.1/\(relayAll t es n).2.1.led=t.led:=by
 unfold relayAll
 split
 ·rename_i t' order hr
  dsimp only
  split
  ·unfold SetTable.relaid at hr
   exact qY hr
  ·exact⟨d7 t _,rfl⟩
 ·exact⟨d7 t _,rfl⟩
section
variable {prog:Program}{w:World}{K:Type}[DecidableEq K]{knd:PySem.KeyKind prog w K}{A:Around}{E:Value->Shared->Prop}{s:Shared}{a:Addr}
noncomputable def gM (w:World)(h:Heap)(a:Addr):Prop:=∃o es ep t,h.get? a=some o/\o.data = .set es ep t/\cn t/\(w.params.followText "set-order" = false->t.led=true)
theorem gM.at' {h h':Heap}(x:gM w h a)(k:∀o,h.get? a=some o->h'.get? a=some o):gM w h' a:=by
 obtain⟨o,es,ep,t,e,r⟩:=x
 exact⟨o,es,ep,t,k _ e,r⟩
noncomputable def bC (knd:PySem.KeyKind prog w K)(h:Heap)(a:Addr)(D:List K):Prop:=gS knd h a D/\gM w h a
theorem mF {o:Obj}{es:Array (Int×Value)}{ep:Nat}{t:SetTable}(ho:s.heap.get? a=some o)(hd:o.data = .set es ep t){es':Array (Int×Value)}{t':SetTable}(g:cn t')(l:w.params.followText "set-order" = false->t'.led=true):
  (s.heap.update a (Obj.putSet es' t')).get? a=some { o with data := .set es' (ep+1) t' } /\ gM w (s.heap.update a (Obj.putSet es' t')) a:=by
 have e:=Us (Obj.putSet es' t') ho (by rw[putSet_of es' t' hd];rfl)
 rw[putSet_of es' t' hd] at e
 exact⟨e,_,_,_,_,e,rfl,g,l⟩
theorem oN {D:List K}{k:K}{x:Value}{Q:Bool->Shared->Prop}(hk:knd.is k x=true)(hx:x.scannable=true)(S:bC knd s.heap a D)(room:D.length+1<scanBound)
  (fin:∀b h',Yd a s.heap h'->bC knd h' a (oneMore D k)->Q b { s with heap:=h' }):wpAny (model prog w) A (setAddHashed a x (knd.hash k)) Q E s:=by
 obtain⟨HK,o',es',ep',t',ho',hd',gt',ld'⟩:=S
 obtain⟨o,es,ep,t,ho,ex,hd,el,mem,bnd,fit,len⟩:=id HK
 obtain⟨gt,ld⟩:cn t/\(w.params.followText "set-order" = false->t.led=true):=by
  rw[ho] at ho';cases ho'
  rw[hd] at hd';cases hd'
  exact⟨gt',ld'⟩
 have KU:=byScan_of hx bnd el
 unfold setAddHashed setAddHashedIn setAddByScan
 refine wpAny_holding (wpAny_bind (wpAny_setState_of ho hd fit ?_))
 dsimp only
 rw[KU,if_pos rfl]
 refine wpAny_bind (wpAny_bind (wpAny_rule (wpAny_bind (wpAny_setScan_of hk ho hd fit el ?_))))
 have Cv:∀(b:Bool) {s1:Shared} {Q':Unit->Shared->Prop},Q' () s1->wpAny (model prog w) A (match b with|true=>rule "set.scan.the-table-gave-way" | false=>pure ()) Q' E s1:=fun b s1 Q' q=>by
  cases b
  ·exact wpAny_pure q
  ·exact wpAny_rule q
 cases hr:es.toList.findIdx? (fun e=>knd.is k e.2) with
 | some j=>
  obtain⟨hj,hp,_⟩:=List.findIdx?_eq_some_iff_getElem.mp hr
  have gU:k∈D:=of_decide_eq_true ((mem k).mpr ⟨_,Jw hj,hp⟩)
  refine wpAny_pure (wpAny_pure ?_)
  have q:=fin false s.heap (Yd.refl a s.heap) (by
   unfold oneMore
   rw[if_pos gU]
   exact⟨HK,_,_,_,_,ho,hd,gt,ld⟩)
  exact q
 | none=>
  have jO:k∉D:=fun z=>by
   obtain⟨e,he,hp⟩:=(mem k).mp (decide_eq_true z)
   have:=List.findIdx?_eq_none_iff.mp hr e he
   rw[hp] at this;cases this
  have more:∀k',decide (k'∈oneMore D k)=(decide (k'∈D)||decide (k'=k)):=fun k'=>by
   unfold oneMore
   rw[if_neg jO]
   simp[Bool.decide_or]
  obtain⟨g1,l1⟩:=tP gt es (knd.hash k) x
  have pm:=layNew_perm t es (knd.hash k) x
  have ft:=layNew_fits t es (knd.hash k) x
  dsimp only
  generalize layNew t es (knd.hash k) x=L at g1 l1 pm ft ⊢
  obtain⟨es1,t1,dummy,gv⟩:=L
  dsimp only at g1 l1 pm ft ⊢
  rw[U9] at pm
  have Ho:ElemsOf knd es1.toList:=(el.push hk hx).perm pm
  have AG:∀k',decide (k'∈oneMore D k)=true ↔ ∃e∈es1.toList,knd.is k' e.2=true:=fun k'=>by
   rw[more];exact mem_push_iff hk mem pm k'
  have He:es1.size=(oneMore D k).length:=by
   unfold oneMore
   rw[if_neg jO,<-Jr,pm.length_eq,Jg,Jg,Jr,len];rfl
  have IY:(oneMore D k).length=D.length+1:=by
   unfold oneMore
   rw[if_neg jO,Jg];rfl
  have BC:es1.size<scanBound:=by omega
  have EE:w.params.followText "set-order" = false->t1.led=true:=fun z=>l1.trans (ld z)
  have tail:∀t2:SetTable,cn t2->(w.params.followText "set-order" = false->t2.led=true)->t2.fits es1.size=true->∀c:Bool,
    wpAny (model prog w) A (do
     storeSet a es1 t2
     if c=true then do
       (match (relayAll t2 es1 (SetTable.grown es1.size)).2.2 with|true=>rule "set.scan.the-table-gave-way" | false=>pure ())
       storeSet a (relayAll t2 es1 (SetTable.grown es1.size)).1 (relayAll t2 es1 (SetTable.grown es1.size)).2.1
       pure (some true)
      else pure (some true)) (fun r s'=>r=some true/\∃h',s'={ s with heap:=h' } /\ Yd a s.heap h'/\bC knd h' a (oneMore D k)) E s:=by
   intro t2 g2 ld2 ft2 c
   refine wpAny_bind (wpAny_storeSet_of ho hd ?_ (fits_of_scanBound BC))
   obtain⟨e1,gs1⟩:=mF (es':=es1) ho hd g2 ld2
   have GR:=Yd.update s.heap a (Obj.putSet es1 t2)
   cases c with
   | false=>
    rw[if_neg Jk]
    exact wpAny_pure ⟨rfl,_,rfl,GR,⟨_,_,_,_,e1,ex,rfl,Ho,AG,BC,ft2,He⟩,gs1⟩
   | true=>
    rw[if_pos rfl]
    have Ag:=relayAll_perm t2 es1 (SetTable.grown es1.size)
    have EA:=relayAll_fits t2 es1 (SetTable.grown es1.size)
    obtain⟨g3,l3⟩:=o5 (t:=t2) es1 (SetTable.grown es1.size)
    generalize relayAll t2 es1 (SetTable.grown es1.size)=L2 at Ag EA g3 l3 ⊢
    obtain⟨es2,t3,gv2⟩:=L2
    dsimp only at Ag EA g3 l3 ⊢
    have Hy:es2.size=es1.size:=by rw[<-Jr,Ag.length_eq,Jr]
    refine wpAny_bind (Cv _ ?_)
    refine wpAny_bind (wpAny_storeSet_of e1 rfl ?_ (fits_of_scanBound (by omega)))
    obtain⟨e2,gs2⟩:=mF (s:={ s with heap:=s.heap.update a (Obj.putSet es1 t2) }) (es':=es2) e1 rfl g3 (fun z=>l3.trans (ld2 z))
    refine wpAny_pure ⟨rfl,_,rfl,GR.trans (Yd.update _ a _),⟨_,_,_,_,e2,ex,rfl,Ho.perm Ag,fun k'=>(AG k').trans ⟨fun hz_=>ae.el hz_ _ fun e he q=>⟨e,Ag.mem_iff.mpr he,q⟩,fun hz_=>ae.el hz_ _ fun e he q=>⟨e,Ag.mem_iff.mp he,q⟩⟩,by omega,EA,Hy.trans He⟩,gs2⟩
  have out:∀(r:Option Bool) s',(r=some true/\∃h',s'={ s with heap:=h' } /\ Yd a s.heap h'/\bC knd h' a (oneMore D k))->wpAny (model prog w) A (match r with|some added=>pure added|none=>setAddHashedIn a x (knd.hash k) 99999) Q E s':=by
   rintro r s' ⟨rfl,h',rfl,sb,sk⟩
   exact wpAny_pure (fin true h' sb sk)
  refine wpAny_bind (Cv _ ?_)
  cases kF:t1.plain with
  | false=>
   rw[if_neg Jk]
   refine wpAny_bind (wpAny_pure ?_)
   rw[if_pos rfl]
   exact wpAny_mono (tail t1 g1 EE ft _) (fun r s' q=>out r s' q) fun _ _ z=>z
  | true=>
   rw[if_pos rfl]
   refine wpAny_bind ?_
   rw[hashByValue_scannable 8 hx]
   refine wpAny_pure ?_
   cases plainKind x with
   | true=>
    rw[if_pos rfl]
    exact wpAny_mono (tail t1 g1 EE ft _) (fun r s' q=>out r s' q) fun _ _ z=>z
   | false=>
    rw[if_neg Jk]
    exact wpAny_mono (tail { t1 with plain:=false } g1 EE (SetTable.fits_plain_off ft) _) (fun r s' q=>out r s' q) fun _ _ z=>z
theorem bC.at' {D:List K}{h h':Heap}(x:bC knd h a D)(k:∀o,h.get? a=some o->h'.get? a=some o):bC knd h' a D:=⟨x.1.at' k,x.2.at' k⟩
end
structure yn (P:Program)(w:World)(K:Type)[DecidableEq K] where
 knd:PySem.KeyKind P w K
 v:K->V
 ok:∀k u,RelV (v k) u->knd.is k u=true/\u.scannable=true
noncomputable def vZ (P:Program)(w:World):yn P w Str:=⟨strKind P w,V.str,fun k u r=>by obtain⟨t,rfl⟩:=r;exact⟨strKind_is _ _ _ _,rfl⟩⟩
noncomputable def sq {P:Program}{w:World}{K:Type}[DecidableEq K](kv:yn P w K)(a:Addr)(D:List K):HO := .ext fun h=>bC kv.knd h a D
theorem wN {P:Program}{w:World}{K:Type}[DecidableEq K]{kv:yn P w K}{a:Addr}{D:List K}{H:Hp}{h:Heap}(x:bC kv.knd h a D):ba P w H h a (sq kv a D):=by
 have x':=x.1
 obtain⟨o,es,ep,t,e,rest⟩:=x'
 exact⟨x,⟨o,e⟩,fun h1 h2 y k=>bC.at' y k⟩
theorem pf {prog:Program}{w:World}{K:Type}[DecidableEq K]{knd:PySem.KeyKind prog w K}{h:Heap}{a:Addr}{led:Bool}(e:h.get? a=some (bK led)):gS knd h a []:=by
 have z:=(setObjOf_fresh (knd:=knd) led).setOf e (by decide)
 have q:(fun k:K=>decide (k∈([]:List K)))=fun _=>false:=by funext k;simp
 show Heap.SetOf knd _ _ (fun k=>decide (k∈([]:List K))) 0
 rw[q]
 exact z
theorem oG {prog:Program}{w:World}{K:Type}[DecidableEq K]{knd:PySem.KeyKind prog w K}{h:Heap}{a:Addr}{led:Bool}(l:w.params.followText "set-order" = false->led=true)(e:h.get? a=some (bK led)):bC knd h a []:=⟨pf e,_,_,_,_,e,rfl,oU,l⟩
theorem lW:∀{ss:List Str} {us:List Value},StrsAre us ss->Vals (ss.map V.str) us:=by
 intro ss us h
 induction h with
 | nil=>exact .nil
 | cons _ _ _ ih=>exact .cons ⟨_,rfl⟩ ih
open PySem.W
section
variable {X:Cx}{H Hj:Hp}{s sj:Shared}{pins:List (Addr×Obj)}{σ:St}
structure Run (X:Cx)(H:Hp)(s:Shared)(Hj:Hp)(sj:Shared):Prop where
 un:Un (kP X.stack) [] H Hj s.heap sj.heap
 aN:d6 X.prog X.w Hj sj.heap
 os:sj.os=s.os
 bare:AllBare sj.gens
theorem Run.inv (r:Run X H s Hj sj)(I:Inv X pins σ H s):Inv X pins σ Hj sj:=I.pJ (ch:=[]) r.os r.un r.aN r.bare fun _ z=>by cases z
theorem Run.start (I:Inv X pins σ H s):Run X H s H s:=⟨Un.refl,I.aN,rfl,I.bare⟩
theorem Run.kept {h':Heap}(r:Run X H s Hj sj)(k:∀b u,sj.heap.get? b=some u->h'.get? b=some u):Run X H s Hj { sj with heap:=h' }:=⟨r.un.trans (Un.kept k),r.aN.kept k,r.os,r.bare⟩
theorem Run.alter {h':Heap}{b:Addr}(r:Run X H s Hj sj)(hb:s.heap.get? b=none)(hn:Hj b=none)(k:∀c u,c≠b->sj.heap.get? c=some u->h'.get? c=some u):Run X H s Hj { sj with heap:=h' }:=by
 have ne:∀{c:Addr} {o:Obj},s.heap.get? c=some o->c≠b:=fun e z=>by rw[z,hb] at e;cases e
 refine⟨⟨fun c o q n h1 h2=>k c o (ne q) (r.un.keep c o q n h1 h2),fun c o q n h1 h2 =>?_,r.un.free,fun c o q h1 =>?_,r.un.fw,r.un.dH,r.un.fR⟩,fun a o e=>(r.aN a o e).lu (fun c u hc q=>k c u ?_ q) (fun _ q=>q) fun _ _ q=>q,r.os,r.bare⟩
 ·obtain⟨sl,e⟩:=r.un.slot c o q n h1 h2
  exact⟨sl,k c _ (ne q) e⟩
 ·obtain⟨o',e⟩:=r.un.there c o q h1
  exact⟨o',k c _ (ne q) e⟩
 ·rintro rfl
  rcases hc with rfl|hc
  ·rw[hn] at e;cases e
  ·rw[hn] at hc;cases hc
theorem Run.told {b:Addr}{o:HO}(r:Run X H s Hj sj)(hb:s.heap.get? b=none)(hn:Hj b=none)(new:ba X.prog X.w (upd Hj b o) sj.heap b o):Run X H s (upd Hj b o) sj:=by
 have ne:∀{c:Addr} {o:Obj},s.heap.get? c=some o->c≠b:=fun e z=>by rw[z,hb] at e;cases e
 have hH:∀{c:Addr} {q:HO},Hj c=some q->c≠b:=fun e z=>by rw[z,hn] at e;cases e
 refine⟨⟨r.un.keep,r.un.slot,fun c o q n h1=>by rw[aj (ne q)];exact r.un.free c o q n h1,r.un.there,fun c xs q =>?_,fun c o u q =>?_,fun c ps q =>?_⟩,fun a u e =>?_,r.os,r.bare⟩
 ·have:=r.un.fw c xs q;rw[aj (hH this)];exact this
 ·have:=r.un.dH c o u q;rw[aj (hH this)];exact this
 ·obtain⟨more,e⟩:=r.un.fR c ps q
  exact⟨more,by rw[aj (hH e)];exact e⟩
 ·by_cases z:a=b
  ·subst z;rw[aE] at e;cases e;exact new
  ·rw[aj z] at e
   exact(r.aN a u e).lu (fun _ _ _ q=>q) (fun c q=>by rw[aj (hH q)];exact q) fun c xs q=>by rw[aj (hH q)];exact q
theorem Run.called {Q:VK}{u:Value}{s':Shared}(r:Run X H s Hj sj)(c:CE X.stack X.prog X.w Hj sj Q u s'):∃v H',Run X H s H' s'/\RelV v u/\Q v H'/\Un (kP X.stack) [] Hj H' sj.heap s'.heap:=by
 obtain⟨v,H',os,bare,un,aN,rv,q⟩:=c
 exact⟨v,H',⟨r.un.trans un,aN,os.trans r.os,bare⟩,rv,q,un⟩
end
noncomputable def zE (X:Cx)(f:Value)(r:V->Hp->VK->Prop):Prop:=
 ∀ ⦃pins:List (Addr×Obj)⦄ (s:Shared) (σ:St) (H:Hp) (x:V) (u:Value) (Q:VK),Inv X pins σ H s->RelV x u->r x H Q ->
  wpAny (model X.prog X.w) X.A.in1.in1 (call f [u]) (CE X.stack X.prog X.w H s Q) (fun _ _=>False) s
theorem Aa {X:Cx}{k:Nat}{f:Addr}{fd:FuncData}{ps:List Str}{sp:Sp}(F:cf X.prog X.w X.K X.mg X.base ir k f fd ps sp)(hr:du (k+2) X.A)(hb:Binds X.K fd ps []):zE X (.ref f) fun x H Q=>sp [x] H Q E0:=by
 intro pins s σ H x u Q I rx h
 have rv:Vals [x] [u] := .cons rx .nil
 have hl:([u]++([]:List Value)).length=ps.length:=F.len _ _ _ _ h
 have b:=hb s [u] I.lq hl
 rw[Ut] at b
 refine wpAny_call (codeAny_mono (F.run X.A.in1.in1 X.stack s H ⟨[u],[]⟩ [u] [x] Q E0 hr.in1.in1 I.Cf.in1.in1 b rv h) fun r s' hq =>?_)
 cases r with
 | error e=>exact hq.elim
 | ok fl=>cases fl with
  | ret u=>exact hq
  | next=>exact False.elim hq
  | brk=>exact False.elim hq
  | cont=>exact False.elim hq
noncomputable def fM (a b:Str):Prop:=a.length<b.length∨(a.length=b.length/\a.cps.toList<b.cps.toList)
noncomputable instance (a b:Str):Decidable (fM a b):=by unfold fM;infer_instance
theorem wG {x y:Str}(h:x.cps.toList=y.cps.toList):x=y:=by
 cases x;cases y;congr 1;exact Array.toList_inj.mp h
theorem iA (a:Str):¬fM a a:=fun h=>by
 rcases h with h|⟨_,h⟩
 ·omega
 ·exact List.lt_irrefl _ h
theorem oB {a b c:Str}(h1:fM a b)(h2:fM b c):fM a c:=by
 rcases h1 with h1|⟨e1,h1⟩<;>rcases h2 with h2|⟨e2,h2⟩
 ·exact .inl (by omega)
 ·exact .inl (by omega)
 ·exact .inl (by omega)
 ·exact .inr ⟨by omega,List.lt_trans h1 h2⟩
theorem vS {a b:Str}(h:a≠b):fM a b∨fM b a:=by
 by_cases h1:a.length<b.length
 ·exact .inl (.inl h1)
 by_cases h2:b.length<a.length
 ·exact .inr (.inl h2)
 by_cases h3:a.cps.toList<b.cps.toList
 ·exact .inl (.inr ⟨by omega,h3⟩)
 ·refine .inr (.inr ⟨by omega,?_⟩)
  rcases List.le_iff_lt_or_eq.mp (List.not_lt.mp h3) with z|z
  ·exact z
  ·exact absurd (wG z).symm h
noncomputable def rk (L:List Str)(t:Str):Nat:=L.countP fun u=>decide (fM u t)
theorem j9 {α:Type}{p q: α->Bool}:∀{L:List α} {t: α},(∀v∈L,p v=true->q v=true)->t∈L->q t=true->p t=false->L.countP p<L.countP q
 | [],_,_,m,_,_=>by cases m
 | v::L,t,h,m,h1,h2=>by
  have hle:L.countP p<=L.countP q:=List.countP_mono_left fun v hv=>h v (Jo _ hv)
  rw[List.countP_cons,List.countP_cons]
  rcases Ug.mp m with rfl|m
  ·rw[h1,h2];simp;omega
  ·have:=j9 (fun v hv=>h v (Jo _ hv)) m h1 h2
   by_cases hp:p v=true
   ·rw[hp,h v Jp hp];simp;omega
   ·rw[if_neg hp];omega
theorem xM {L:List Str}{t u:Str}(ht:t∈L)(h:fM t u):rk L t<rk L u:=
 j9 (fun v _ hv=>decide_eq_true (oB (of_decide_eq_true hv) h)) ht (decide_eq_true h) (decide_eq_false (iA t))
theorem tN {L:List Str}{t u:Str}(ht:t∈L)(hu:u∈L):fM t u↔rk L t<rk L u:=by
 refine⟨xM ht,fun h =>?_⟩
 by_cases e:t=u
 ·subst e;omega
 rcases vS e with z|z
 ·exact z
 ·have:=xM hu z;omega
noncomputable def gG (H:Hp)(v:Value):Str:=match v with
 | .ref q=>match H q with
  | some (.tup [_,.str t])=>t
  | _=>⟨#[]⟩
 | _=>⟨#[]⟩
noncomputable def wx (H:Hp)(L:List Str)(p:Keyed):Int:=rk L (gG H p.1)
noncomputable def dE (H:Hp)(t:Str)(v:Value):Prop:=∃q,v = .ref q/\H q=some (.tup [.int t.length,.str t])
theorem dE.txt {H:Hp}{t:Str}{v:Value}(h:dE H t v):gG H v=t:=by
 obtain⟨q,rfl,e⟩:=h
 unfold gG;simp only[e]
theorem dE.obj {P:Program}{w:World}{H:Hp}{t:Str}{v:Value}{h:Heap}(k:dE H t v)(ok:d6 P w H h):∃q o n t1 t2,v = .ref q/\h.get? q=some o/\o.cls = .type "tuple" /\ o.data = .seq #[.int t.length t1,.str t t2] n:=by
 obtain⟨q,rfl,e⟩:=k
 obtain⟨_,au,r,o,e1,c,n,d⟩:=ok q _ e
 obtain⟨w1,w2,rfl,⟨t1,rfl⟩,⟨t2,rfl⟩⟩:=vals2 r
 exact⟨q,o,n,t1,t2,rfl,e1,c,d⟩
noncomputable abbrev kM:SortKind:=tuples' (Value.type "int" != Value.type "tuple")
section
variable {prog:Program}{w:World}{A:Around}{E:Value->Shared->Prop}{s:Shared}
theorem zO {H:Hp}{L:List Str}{a₀:Array Keyed}(ok:d6 prog w H s.heap)(h0:∀x∈a₀.toList,∃t,t∈L/\dE H t x.1):gA prog w A E s a₀ (wx H L) kM:=fun st x y Q hx hy hk q=>by
 refine ae.el (h0 x hx) _ ?_
 rintro t mt kt
 refine ae.el (h0 y hy) _ ?_
 rintro u mu ku
 have q':Q (some (decide (fM t u))) st:=by
  have e:decide (wx H L x<wx H L y)=decide (fM t u):=decide_eq_decide.mpr (by unfold wx;rw[kt.txt,ku.txt,Int.ofNat_lt];exact(tN mt mu).symm)
  rw[e] at q;exact q
 clear q
 refine ae.el (kt.obj ok) _ ?_
 rintro q1 o1 n1 t1 t2 e1 g1 _ d1
 refine ae.el (ku.obj ok) _ ?_
 rintro q2 o2 n2 u1 u2 e2 g2 _ d2
 rw[lt'_eq]
 refine wpS_bind (wpS_get ?_)
 rw[hk,e1,e2]
 refine wpS_bind (wpS_lift (wpAny_attempt (wpAny_mono (kat_lt g1 d1 g2 d2 (Q:=fun b s'=>b=decide (fM t u)/\s'=s) ?_) (fun b s' hb =>?_) (fun _ _ z=>False.elim z))))
 ·show KatLex _ _ _ _ _ _ [(_,_),(_,_)] 0 s
  refine kat_cons (wpAny_eqBool_int ?_)
  by_cases c:t.length=u.length
  ·rw[show((t.length:Int)==(u.length:Int))=true by simp -iota [c]]
   refine kat_yes (kat_cons (wpAny_eqBool_str ?_))
   by_cases d:t=u
   ·rw[decide_eq_true d]
    refine kat_yes (kat_nil ⟨?_,rfl⟩)
    subst d
    exact(decide_eq_false (iA t)).symm
   ·rw[decide_eq_false d]
    refine kat_no (kat_one _ _ (lt_str ?_))
    refine⟨?_,rfl⟩
    refine decide_eq_decide.mpr ⟨fun z =>.inr ⟨c,z⟩,fun z =>?_⟩
    rcases z with z|z
    ·omega
    ·exact z.2
  ·rw[show((t.length:Int)==(u.length:Int))=false by simp;omega]
   refine kat_no (oneLt_int ⟨?_,rfl⟩)
   refine decide_eq_decide.mpr ⟨fun z =>.inl (by omega),fun z =>?_⟩
   rcases z with z|z
   ·omega
   ·exact absurd z.1 c
 ·obtain⟨rfl,rfl⟩:=hb
  exact⟨rfl,wpS_pure q'⟩
end
section
variable {X:Cx}{H:Hp}{s0:Shared}{pins:List (Addr×Obj)}{σ:St}{D kS:Addr}{ts:List Str}{vs:List Value}
structure Kj (X:Cx)(H:Hp)(s0:Shared)(D kS:Addr)(e1:Nat)(ts:List Str)(Hj:Hp)(ks:List Value)(sj:Shared):Prop where
 run:Run X H s0 Hj sj
 same:aw H Hj
 dn:Hj D=none
 kn:Hj kS=none
 d0:s0.heap.get? D=none
 k0:s0.heap.get? kS=none
 ne:kS≠D
 dat:sj.heap.get? D=some (seqObj "list" #[] e1)
 kat:∃e,sj.heap.get? kS=some (seqObj "list" ks.toArray e)
 keys:Paired (dE Hj) ts ks
theorem og {α β:Type}{R: α -> β->Prop}{a: α}{b: β}:∀{l₁:List α} {l₂:List β},Paired R l₁ l₂->R a b->Paired R (l₁++[a]) (l₂++[b]):=by
 intro l₁ l₂ t h
 induction t with
 | nil=>exact .cons h .nil
 | cons r _ ih=>exact .cons r ih
theorem xR (I:Inv X pins σ H s0){b:Addr}(h:s0.heap.get? b=none):b∉kP X.stack:=fun hb=>by
 refine ae.el (I.stack.mem hb) _ ?_
 rintro _ o e _
 rw[h] at e;cases e
theorem dE.new {H H':Hp}{t:Str}{v:Value}{q:Addr}{o:HO}(k:dE H t v)(n:dz H q o H'):dE H' t v:=by
 obtain⟨a,rfl,e⟩:=k
 exact⟨a,rfl,n.same _ _ e⟩
theorem Kj.more {e1:Nat}{Hj:Hp}{ks:List Value}{sj s':Shared}{t:Str}{u:Value}(I:Inv X pins σ H s0)(k:Kj X H s0 D kS e1 ts Hj ks sj)(hz:ks.length<sizeLine)
  (c:CE X.stack X.prog X.w Hj sj (fun v H'=>∃q,v = .ref q/\dz Hj q (.tup [.int t.length,.str t]) H') u s') :
  ∃e,s'.heap.get? kS=some (seqObj "list" ks.toArray e)/\∃Hi,Kj X H s0 D kS e1 (ts++[t]) Hi (ks++[u]) { s' with heap:=s'.heap.update kS (Obj.mapSeq (·.push u)) }:=by
 obtain⟨v,H',r',rv,⟨q,rfl,n⟩,un⟩:=k.run.called c
 cases rv
 obtain⟨e,hk⟩:=k.kat
 have nd:=un.keep D _ k.dat k.dn (xR I k.d0) (by simp)
 have nk:=un.keep kS _ hk k.kn (xR I k.k0) (by simp)
 have fd:=un.free D _ k.dat k.dn (by simp)
 have fk:=un.free kS _ hk k.kn (by simp)
 refine⟨e,nk,H',?_⟩
 refine⟨r'.alter k.k0 fk fun c u hc q=>by rw[Yr _ _ _ _ hc];exact q,fun a o z=>n.same _ _ (k.same a o z),fd,fk,k.d0,k.k0,k.ne,?_,?_,?_⟩
 ·show(s'.heap.update _ _).get? D=_
  rw[Yr _ _ _ _ k.ne.symm];exact nd
 ·have ea:ks.toArray.push (Value.ref q)=List.toArray (ks++[.ref q]):=by simp
  exact⟨_,by rw[<-ea];exact get?_update_seq nk (·.push (Value.ref q))⟩
 ·exact og (Paired.imp' (fun a b z=>dE.new z n) k.keys) ⟨q,rfl,n.at⟩
theorem i9 {Hn:Hp}:∀{ts:List Str} {ks vs:List Value},Paired (dE Hn) ts ks->Vals (ts.map V.str) vs->(ks.zip vs).map (fun p=>gG Hn p.1)=ts/\∀p∈ks.zip vs,∃t,t∈ts/\dE Hn t p.1/\RelV (.str t) p.2
 | [],_,_,.nil,.nil=>⟨rfl,fun _ h=>by cases h⟩
 | t::ts,_,_,.cons r a,.cons q b=>by
  obtain⟨e,m⟩:=i9 a b
  refine⟨?_,fun p hp =>?_⟩
  ·rw[List.zip_cons_cons,Ui,e]
   show gG Hn _::ts=_
   rw[r.txt]
  ·rw[List.zip_cons_cons] at hp
   rcases Ug.mp hp with rfl|hp
   ·exact⟨t,Jp,r,q⟩
   ·obtain⟨t,h1,h2⟩:=m p hp
    exact⟨t,Jo _ h1,h2⟩
theorem nD {Hn:Hp}:∀{l:List Keyed},(∀p∈l,RelV (.str (gG Hn p.1)) p.2)->Vals ((l.map fun p=>gG Hn p.1).map V.str) (l.map (·.2))
 | [],_ =>.nil
 | p::l,h =>.cons (h p Jp) (nD fun q hq=>h q (Jo _ hq))
noncomputable def yS (X:Cx)(H:Hp)(s0:Shared)(D:Addr)(ts:List Str)(P:Shared->Prop):Prop:=
 ∀(us:List Str) (out:Array Value) (Hn:Hp) (sn:Shared) (e:Nat),Run X H s0 Hn sn->aw H Hn->Hn D=none->sn.heap.get? D=some (seqObj "list" out e)->Vals (us.map V.str) out.toList->us.Perm ts->us.Pairwise (fun a b =>¬fM b a)->P sn
theorem jw {A:Around}{E:Value->Shared->Prop}{e1:Nat}{Hn:Hp}{ks:List Value}{sn:Shared}{P:PySem.Fin->Shared->Prop}{st:SortSt}(k:Kj X H s0 D kS e1 ts Hn ks sn)(rv:Vals (ts.map V.str) vs)(hz:ts.length<=sizeLine)
  (hp:(arrOf st).Perm (ks.toArray.zip vs.toArray)) (hf:failedOf st=none) (hs:Sg (wx Hn ts) (arrOf st) 0 (arrOf st).size) (h:yS X H s0 D ts fun sn=>P (.done (.ret .none)) sn) :
  wpAny (model X.prog X.w) A (ksk_tail D false e1 (.ref kS) st) P E sn:=by
 obtain⟨e,hk⟩:=k.kat
 have lk:ks.length=ts.length:=k.keys.length.symm
 have kF:(arrOf st).toList.Perm (ks.zip vs):=by
  have:=Y7.mp hp
  rw[ksk_zip] at this;exact this
 obtain⟨z1,z2⟩:=i9 k.keys rv
 have z3:∀p∈(arrOf st).toList,∃t,t∈ts/\dE Hn t p.1/\RelV (.str t) p.2:=fun p h=>z2 p (kF.subset h)
 have up:((arrOf st).toList.map fun p=>gG Hn p.1).Perm ts:=by rw[<-z1];exact kF.map _
 have ul:=up.length_eq
 rw[Ja,Jr] at ul
 have d1:(sn.heap.update kS (Obj.mapSeq fun _=>(#[]:Array Value))).get? D=some (seqObj "list" #[] e1):=by rw[Yr _ _ _ _ k.ne.symm];exact k.dat
 unfold ksk_tail
 try dsimp only
 refine wpAny_bind (listUpdate_at hk rfl ?_ (by rw[Jl];omega) (Um _))
 refine wpAny_bind (wpAny_letGo ?_)
 refine wpAny_bind (seqEpoch_at d1 rfl ?_)
 simp -iota only [J6,if_false]
 refine wpAny_bind (listUpdate_at d1 rfl ?_ (Um _) (by rw[Array.size_map];omega))
 rw[hf]
 simp -iota only [bne_self_eq_false,J6,if_false]
 obtain⟨e2,g2⟩:∃e2,((sn.heap.update kS (Obj.mapSeq fun _=>(#[]:Array Value))).update D (Obj.mapSeq fun _=>(arrOf st).map (·.2))).get? D=some (seqObj "list" ((arrOf st).map (·.2)) e2):=⟨_,get?_update_seq d1 fun _=>(arrOf st).map (·.2)⟩
 have r1:=k.run.alter (h':=sn.heap.update kS (Obj.mapSeq fun _=>(#[]:Array Value))) k.k0 k.kn fun c u hc q=>by rw[Yr _ _ _ _ hc];exact q
 have r2:=r1.alter (h':=(sn.heap.update kS (Obj.mapSeq fun _=>(#[]:Array Value))).update D (Obj.mapSeq fun _=>(arrOf st).map (·.2))) k.d0 k.dn fun c u hc q=>by rw[Yr _ _ _ _ hc];exact q
 refine wpAny_pure (h _ _ Hn _ e2 r2 k.same k.dn g2 ?_ up ?_)
 ·rw[Array.toList_map]
  exact nD fun p hp=>by
   refine ae.el (z3 p hp) _ ?_
   rintro t _ h2 h3
   rw[h2.txt];exact h3
 ·rw[List.pairwise_map,Yg]
  intro i j hi hj fV
  rw[Jr] at hi hj
  have q:=hs i j (Um _) (Uy fV) hj
  have ki:∀{i:Nat} (hi:i<(arrOf st).size),ky (wx Hn ts) (arrOf st) i=rk ts (gG Hn ((arrOf st)[i]).1):=fun{i} hi=>by unfold ky;rw[J8 hi];rfl
  rw[ki hi,ki hj] at q
  rw[Array.getElem_toList,Array.getElem_toList]
  obtain⟨t,m1,k1,_⟩:=z3 (arrOf st)[i] (by rw[<-Array.getElem_toList];exact Jw _)
  obtain⟨u,m2,k2,_⟩:=z3 (arrOf st)[j] (by rw[<-Array.getElem_toList];exact Jw _)
  rw[k1.txt,k2.txt] at q ⊢
  intro z
  have:=(tN m2 m1).mp z
  omega
theorem xb {P:Program}{w:World}{Hn:Hp}{h:Heap}(ok:d6 P w Hn h):∀{ts:List Str} {ks:List Value},Paired (dE Hn) ts ks->∃fs,KatTups h ks fs/\fs.length=ks.length/\∀v∈fs,∃z t,v=Value.int z t:=by
 intro ts ks k
 induction k with
 | nil=>exact⟨[],.nil,rfl,fun v hv=>by cases hv⟩
 | @cons t _ _ _ r _ ih=>
  refine ae.el ih _ ?_
  rintro fs a l q
  refine ae.el (r.obj ok) _ ?_
  rintro x o n t1 t2 rfl e1 e2 e3
  refine⟨.int t.length t1::fs,.cons e1 e2 e3 rfl a,by rw[J1,J1,l],fun v hv =>?_⟩
  rcases Ug.mp hv with rfl|hv
  ·exact⟨_,_,rfl⟩
  ·exact q v hv
theorem rJ {A:Around}{E:Value->Shared->Prop}{e1:Nat}{Hn:Hp}{ks:List Value}{sn:Shared}{P:PySem.Fin->Shared->Prop}(k:Kj X H s0 D kS e1 ts Hn ks sn)(rv:Vals (ts.map V.str) vs)(hz:ts.length<=sizeLine)
  (h:yS X H s0 D ts fun sn=>P (.done (.ret .none)) sn):wpAny (model X.prog X.w) A (ksk_end D false vs.toArray e1 (.ref kS) ks.toArray) P E sn:=by
 have lk:ks.length=ts.length:=k.keys.length.symm
 have lv:vs.length=ts.length:=by have:=rv.length;rw[Ja] at this;exact this.symm
 obtain⟨z1,z2⟩:=i9 k.keys rv
 unfold ksk_end
 try dsimp only
 simp -iota only [J6,if_false]
 by_cases h2:vs.toArray.size<2
 ·rw[if_pos h2,if_pos h2]
  refine wpAny_bind (wpAny_pure ?_)
  rw[StateT.run_pure]
  refine wpAny_bind (wpAny_pure ?_)
  refine jw k rv hz (Array.Perm.refl _) rfl (fun i j _ fV hj =>?_) h
  have:(arrOf (SortSt.mk' general' (ks.toArray.zip vs.toArray) #[] 7 none)).size<2:=by
   show(ks.toArray.zip vs.toArray).size<2
   rw[Array.size_zip,Jl,Jl]
   rw[Jl] at h2
   omega
  have FW:j<1:=Jy hj (Wd this)
  rw[show i=j by omega]
  exact Yb _
 ·rw[if_neg h2,if_neg h2]
  rw[Jl] at h2
  refine ae.el (xb k.run.aN k.keys) _ ?_
  rintro fs kt lf hf
  refine wpAny_bind (wpAny_mono (kat_kind (Q:=fun κ s' => κ=kM/\s'=sn) kt (by omega) (fun v hv =>?_) (by decide) ⟨rfl,rfl⟩) (fun κ s' hk =>?_) (fun _ _ z=>z))
  ·refine ae.el (hf v hv) _ ?_
   rintro z t rfl
   exact Looks.of_pure rfl
  obtain⟨rfl,rfl⟩:=hk
  have hL:gA X.prog X.w A E s' (ks.toArray.zip vs.toArray) (wx Hn ts) kM:=zO k.run.aN fun x hx=>by
   rw[ksk_zip] at hx
   refine ae.el (z2 x hx) _ ?_
   rintro t h1 h2 _
   exact⟨t,h1,h2⟩
  refine wpAny_bind (wpAny_mono (vD (a₀:=ks.toArray.zip vs.toArray) (key:=wx Hn ts) (kd:=kM) (st:=SortSt.mk' kM (ks.toArray.zip vs.toArray) #[] 7 none) (Q:=fun _ st=>Tb (ks.toArray.zip vs.toArray) kM st/\Sg (wx Hn ts) (arrOf st) 0 (ks.toArray.zip vs.toArray).size) hL ⟨Array.Perm.refl _,rfl,rfl⟩ rfl fun _ t g=>⟨t,g⟩) ?_ fun _ _ z=>z)
  rintro⟨⟨⟩,st⟩ s2 ⟨rfl,t,g⟩
  exact jw k rv hz t.perm t.failed (by rw[t.perm.size_eq];exact g) h
theorem oh {E:Value->Shared->Prop}{f:Value}{r:V->Hp->VK->Prop}{n:Nat}{s:Shared}{P:PySem.Fin->Shared->Prop}(I:Inv X pins σ H s0)(F:zE X f r)(hr:∀t∈ts,∀Hj,aw H Hj->r (.str t) Hj fun v H'=>∃q,v = .ref q/\dz Hj q (.tup [.int t.length,.str t]) H')
  (r0:Run X H s0 H s) (d0:s0.heap.get? D=none) (hd:s.heap.get? D=some (seqObj "list" vs.toArray n)) (dn:H D=none) (rv:Vals (ts.map V.str) vs) (hz:ts.length<=sizeLine) (Dg:∀b o,s0.heap.get? b=some o->b<s.heap.objs.size)
  (h:yS X H s0 D ts fun sn=>P (.done (.ret .none)) sn):wpAny (model X.prog X.w) X.A.in1.in1 (ksk_tree D f false) P E s:=by
 have lv:vs.length=ts.length:=by have:=rv.length;rw[Ja] at this;exact this.symm
 obtain⟨e1,g1⟩:∃e1,(s.heap.update D (Obj.mapSeq fun _=>(#[]:Array Value))).get? D=some (seqObj "list" #[] e1):=⟨_,get?_update_seq hd fun _ =>#[]⟩
 have k1:((s.heap.update D (Obj.mapSeq fun _=>(#[]:Array Value))).push (seqObj "tuple" vs.toArray 0)).objs.size=s.heap.objs.size+1:=by rw[size_push',Heap.size_update]
 have lD:D<s.heap.objs.size:=Jm hd
 unfold ksk_tree
 refine wpAny_bind (listItems_at hd rfl ?_)
 refine wpAny_bind (listUpdate_at hd rfl ?_ (by rw[Jl];omega) (Um _))
 refine wpAny_bind (seqEpoch_at g1 rfl ?_)
 refine wpAny_bind (wpAny_newTuple ?_ (by show vs.length<=_;omega))
 refine wpAny_bind (wpAny_newList ?_ (Um _))
 refine wpAny_holding ?_
 show wpAny _ _ (ksk_rest D f false vs.toArray e1 (.ref ((s.heap.update D (Obj.mapSeq fun _=>(#[]:Array Value))).push (seqObj "tuple" vs.toArray 0)).objs.size)) P E { s with heap:=((s.heap.update D (Obj.mapSeq fun _=>(#[]:Array Value))).push (seqObj "tuple" vs.toArray 0)).push (seqObj "list" #[] 0) }
 rw[k1]
 have g3:(((s.heap.update D (Obj.mapSeq fun _=>(#[]:Array Value))).push (seqObj "tuple" vs.toArray 0)).push (seqObj "list" #[] 0)).get? (s.heap.objs.size+1)=some (seqObj "list" #[] 0):=by rw[<-k1];exact Js _ rfl
 have ra:=r0.alter (h':=s.heap.update D (Obj.mapSeq fun _=>(#[]:Array Value))) d0 dn fun c u hc q=>by rw[Yr _ _ _ _ hc];exact q
 have rb:=ra.kept (h':=((s.heap.update D (Obj.mapSeq fun _=>(#[]:Array Value))).push (seqObj "tuple" vs.toArray 0)).push (seqObj "list" #[] 0)) fun b u q=>Jc _ (Jc _ q)
 have kk:Kj X H s0 D (s.heap.objs.size+1) e1 (ts.take 0) H ([]:List Value) { s with heap:=((s.heap.update D (Obj.mapSeq fun _=>(#[]:Array Value))).push (seqObj "tuple" vs.toArray 0)).push (seqObj "list" #[] 0) }:=
  ⟨rb,fun _ _ z=>z,dn,r0.aN.fresh (Yt _),d0,by
   cases q:s0.heap.get? (s.heap.objs.size+1) with
   | none=>rfl
   | some o=>exact absurd (Dg _ _ q) (by show ¬s.heap.objs.size+1<s.heap.objs.size;omega),Wb (Wc lD),Jc _ (Jc _ g1),⟨0,g3⟩,.nil⟩
 unfold ksk_rest
 refine wpAny_bind (wpAny_rule ?_)
 first
  | rw[List.forIn_toArray]
  | (rw[<-Array.forIn_toList];simp -iota only [Yh])
  | rw[<-Array.forIn_toList]
 refine wpAny_bind (ksk_fold (I:=fun j s'=>∃Hj ks,Kj X H s0 D (s.heap.objs.size+1) e1 (ts.take j) Hj ks s') vs 0 _ ⟨_,_,kk⟩ (fun j x s' hx hI =>?_) fun s' hI =>?_)
 ·refine ae.el (hI) _ ?_
  rintro Hj ks k
  rw[Nat.zero_add] at k ⊢
  have hj:j<ts.length:=by have:=(Ju.mp hx).1;omega
  obtain⟨u,hu,ru⟩:=rv.get (i:=j) (x := .str ts[j]) (by rw[Jn,Jf hj];rfl)
  rw[hx] at hu;cases hu
  have lk:ks.length=j:=by have:=k.keys.length;rw[J3] at this;omega
  refine wpAny_bind (wpAny_attempt (wpAny_mono (F s' σ Hj _ _ _ (k.run.inv I) ru (hr ts[j] (Jw hj) Hj k.same)) (fun v s2 c =>?_) fun _ _ z=>z.elim))
  refine ae.el (k.more I (by omega) c) _ ?_
  rintro e nk Hi k'
  try dsimp only
  refine wpAny_bind (listUpdate_at nk rfl ?_ (by rw[Jl];omega) (Jq (Yp (Wa ..)) (by rw[Jl];omega)))
  refine wpAny_pure ⟨rfl,Hi,ks++[v],?_⟩
  rw[List.take_succ_eq_append_getElem hj]
  exact k'
 ·refine ae.el (hI) _ ?_
  rintro Hj ks k
  rw[Nat.zero_add,lv,J0] at k
  obtain⟨e,hk⟩:=k.kat
  try dsimp only
  refine wpAny_bind (listItems_at hk rfl ?_)
  exact rJ k rv hz h
end
noncomputable def oA (X:Cx)(id:String)(ks:List Str)(r:List V->List V->Hp->VK->Prop):Prop:=
 ∀ ⦃pins:List (Addr×Obj)⦄ (s:Shared) (σ:St) (H:Hp) (xs:List V) (us:List Value) (zs:List V) (ws:List Value) (Q:VK),Inv X pins σ H s->Vals xs us->Vals zs ws->r xs zs H Q ->
  wpAny (model X.prog X.w) X.A (call (.builtin id) us (ks.zip ws)) (EP X pins σ Q) X.xe s
section
variable {X:Cx}{x:Str}{p pos:Pos}{e:Expr}{es:List Expr}{tX:List Keyword}{t tk:TA}{id:String}{ks:List Str}{r:List V->List V->Hp->VK->Prop}
noncomputable def D9 (r:List V->List V->Hp->VK->Prop)(t tk:TA):TE:=fun σ H Q=>t σ H fun vs H1=>tk σ H1 fun zs H2=>r vs zs H2 Q
theorem j7 (hc:oA X id ks r)(hg:Gl X x)(hm:X.mg x=none)(hv:bootBuiltins x=some (.builtin id))(ha:PA X (e::es) t)(JF:PK X tX tk)(hn:x ≠ "__name__":=by decide)(sH:(x==("__debug__" : Str))=false:=by decide)
  (he:backTo pos (starEach (e::es) X.env)=(false,eval e X.env)::backTo pos (starEach es X.env):=by rfl) (kF:(backTo pos (starEach (e::es) X.env)).any (·.1)=false:=by rfl)
  (cU:(backToKw pos (keywordEach tX X.env)).all (·.1.isSome)=true:=by rfl) (uK:(backToKw pos (keywordEach tX X.env)).any (·.1.isNone)=false:=by rfl) (Ah:(backToKw pos (keywordEach tX X.env)).filterMap (·.1)=ks:=by rfl) :
  PE X (.Call (.Name x p) (e::es) tX pos) (D9 r t tk):=by
 intro pins s σ H Q I h
 refine wpAny_Call_Name_kw (e9 I hg hm hv ?_ hn sH)
 refine callWith_kw (aM (ha s σ H _ I h) fun us s1 hz_=>ae.el hz_ _ fun vs H1 I1 r1 q1 =>?_) he kF cU uK
 refine aM (JF s1 σ H1 _ I1 q1) fun ws s2 hz_ =>?_
 refine ae.el hz_ _ ?_
 clear hz_
 rintro zs H2 I2 r2 q2
 rw[Ah]
 exact hc s2 σ H2 vs us zs ws Q I2 r1 r2 q2
end
section
variable {X:Cx}(K:Jd)
theorem ux {f:Addr}{r:V->Hp->VK->Prop}(F:zE X (.ref f) r)(hK:X.K=K:=by rfl):oA X "sorted" [Str.ofString "key"] (fun xs zs H Q=>bV fun(p:Addr) (ts:List Str)=>xs=[.ref p]/\zs=[.ref f]/\aB K H p (ts.map V.str) /\
  (∀t∈ts,∀Hj,r (.str t) Hj fun v H'=>∃q,v = .ref q/\dz Hj q (.tup [.int t.length,.str t]) H') /\
  ∀(us:List Str) (q:Addr) (H':Hp),us.Perm ts->us.Pairwise (fun a b =>¬fM b a)->aw H H'->H q=none->H' q=some (.lst (us.map V.str))->Q (.ref q) H'):=by
 subst hK
 intro pins s σ H xs us zs ws Q I r1 r2 h
 refine ae.el (h) _ ?_
 rintro p ts rfl rfl hq hr q
 refine ae.el (vals1 r1) _ ?_
 rintro u rfl ru
 refine ae.el (vals1 r2) _ ?_
 rintro z rfl rz
 cases ru;cases rz
 refine ae.el (I.list hq) _ ?_
 rintro au rv pl hz
 have ht:ts.length<=sizeLine:=by rw[Ja] at hz;exact hz
 have hi:au.length<=sizeLine:=by rw[<-rv.length];exact hz
 have k1:((s.heap.push (seqObj "list" #[] 0)).update s.heap.objs.size (Obj.mapSeq (· ++ au.toArray))).objs.size=s.heap.objs.size+1:=(Heap.size_update ..).trans (size_push' _ _)
 have k2:(((s.heap.push (seqObj "list" #[] 0)).update s.heap.objs.size (Obj.mapSeq (· ++ au.toArray))).push (seqObj "list" au.toArray 0)).get? _=some (seqObj "list" au.toArray 0):=Js _ rfl
 have keep:∀b o,s.heap.get? b=some o->(((s.heap.push (seqObj "list" #[] 0)).update s.heap.objs.size (Obj.mapSeq (· ++ au.toArray))).push (seqObj "list" au.toArray 0)).get? b=some o:=fun b o e=>
  Jc _ (by rw[Yr _ _ _ _ (J5 (Jm e))];exact Jc _ e)
 show wpAny _ _ (call (.builtin "sorted") [.ref p] [(Str.ofString "key",.ref f)]) _ _ _
 refine call_function_entry_kw kind_sorted plain_sorted entry_sorted (ksk_s1 _ _) ?_
 unfold Builtin.«sorted»
 refine wpAny_bind (m:=checkCount "sorted" 1 1 _) (wpAny_pure (wpAny_bind (collect_list pl.isList (wpAny_bind (wpAny_newList ?_ hi)) hi)))
 rw[k1] at k2
 show wpAny _ _ _ _ _ { s with heap:=Heap.push _ (seqObj "list" au.toArray 0) }
 rw[k1]
 refine wpAny_bind (wpAny_holding (wpAny_call_entry_kw slot_list_sort ⟨_,k2,rfl⟩ entry_list_sort ?_ (ksk_l1 _ _)))
 rw[ksk_t1]
 have d0:s.heap.get? (s.heap.objs.size+1)=none:=Heap.get?_none_of_le (Yt _)
 refine oh (ts:=ts) I F (fun t ht Hj _=>hr t ht Hj) ((Run.start I).kept keep) d0 k2 (I.aN.fresh (Yt _)) rv ht (fun b o e=>Jm (keep b o e)) ?_
 intro vs out Hn sn e run same dn hD rv' up pw
 have lo:vs.length<=sizeLine:=by rw[up.length_eq];exact ht
 have new:=run.told (o := .lst (vs.map V.str)) d0 dn ⟨by rw[Ja];exact lo,out.toList,e,rv',by simpa [seqObj] using hD⟩
 refine⟨_,rfl,wpAny_pure ⟨_,rfl,.ref (s.heap.objs.size+1),_,new.inv I,rfl,q vs _ _ up pw (fun a o z =>?_) (I.aN.fresh (Yt _)) aE⟩⟩
 rw[aj (fun h=>by rw[h,I.aN.fresh (Yt _)] at z;cases z)]
 exact same a o z
end
theorem qK (a v:Value):argsOk "max" ⟨[a],[(Str.ofString "default",v)]⟩:=by unfold argsOk;kernel_rfl
noncomputable def DJ (bt:Nat->Nat->Bool)(P:Nat->Value->Prop)(j:Nat)(xs:Array Value):Prop:=(j=0/\xs = #[])∨∃k v,j=k+1/\P (argBest bt k) v/\xs = #[v,v]
section
variable {prog:Program}{w:World}{A:Around}{R:Result->Shared->Prop}{I S:Addr}{fp wr:List Addr}{n:Nat}{P:Nat->Value->Prop}{St:Nat->Heap->Prop}{bt:Nat->Nat->Bool}{dv:Value}
theorem qZ (W:Walks prog w A.in1 I fp wr n P St)(Fi:CmpOf prog w A.in1 .Gt P bt)(out:S∉fp)(m:Nat):
  ∀(j:Nat) (s:Shared) (xs:Array Value) (c:Nat),m=n-j->j<=n->St j s.heap->DJ bt P j xs->s.heap.get? S=some { cls := .type "list",dict:=none,data := .seq xs c,slots := #[] } ->
   (∀v h' tk,(n=0/\v=dv)∨(0<n/\P (argBest bt (n-1)) v)->(∀b o,b∉wr->b≠S->s.heap.get? b=some o->h'.get? b=some o)->R (.ok (.ret v)) { s with heap:=h',toks:=tk }) ->
   codeAny (model prog w) A (.builtin "max.loop" ⟨[.ref I,.none,.ref S],[(Str.ofString "default",dv)]⟩) R s:=by
 have ow:S∉wr:=fun z=>out (W.sub _ z)
 have nm:(toString "max" ++ toString ".loop" : String) = "max.loop":=by decide
 have apart:∀{b:Addr},b∈fp->S≠b:=fun hb z=>out (by rw[z];exact hb)
 induction m with
 | zero=>
  intro j s xs c hm hj st hb hS hR
  obtain rfl:j=n:=by omega
  refine codeAny_builtin F.entry_max_loop ?_
  rw[Around.under_plainId F.plain_max_loop _]
  refine wpAny_bind (wpAny_seqItems hS rfl (wpAny_bind (wpAny_tryCatch (W.done s _ _ st fun h' tk hk =>?_))))
  rcases hb with ⟨e0,rfl⟩|⟨k,v,rfl,hv,rfl⟩
  ·exact wpAny_bind (wpAny_rule (wpAny_pure (hR dv h' tk (.inl ⟨e0,rfl⟩) fun b o h1 _ e=>hk b o h1 e)))
  ·exact wpAny_bind (wpAny_updateSeq (hk S _ ow hS) rfl (wpAny_bind (wpAny_letGo (wpAny_pure (hR v _ tk (.inr ⟨Nat.succ_pos _,hv⟩) fun b o h1 h2 e=>(Uj _ _ (Ne.symm h2)).trans (hk b o h1 e))))))
 | succ m ih=>
  intro j s xs c hm hj st hb hS hR
  have bP:j<n:=by omega
  refine codeAny_builtin F.entry_max_loop ?_
  rw[Around.under_plainId F.plain_max_loop _]
  refine wpAny_bind (wpAny_seqItems hS rfl (wpAny_bind (wpAny_tryCatch (W.item j s _ _ bP st fun u h' tk hu av hk =>?_))))
  have Dc:=hk S _ ow hS
  have next:∀{y:Value},P (argBest bt j) y->codeAny (model prog w) A (.builtin "max.loop" ⟨[.ref I,.none,.ref S],[(Str.ofString "default",dv)]⟩) R { s with heap:=h'.update S (Obj.mapSeq fun _ =>#[y,y]),toks:=tk }:=fun{y} hy=>
   ih (j+1) _ #[y,y] _ (by omega) bP (W.frame _ _ _ av fun b hb o e=>(Uj _ _ (apart hb)).trans e) (.inr ⟨j,y,rfl,hy,rfl⟩) (Us _ Dc rfl) fun v h'' tk'' hv hk''=>hR v h'' tk'' hv fun b o h1 h2 e=>hk'' b o h1 h2 ((Uj _ _ (Ne.symm h2)).trans (hk b o h1 e))
  rcases hb with ⟨rfl,rfl⟩|⟨k,v,rfl,hv,rfl⟩
  ·change wpAny _ A.in1 (updateSeq S (fun _ =>#[u,u]) >>= _) _ _ _
   refine wpAny_bind (wpAny_updateSeq Dc rfl ?_)
   rw[nm]
   exact wpAny_pure ⟨plainId_quiet F.plain_max_loop _,next hu⟩
  ·change wpAny _ A.in1 (tryCatch (holding [u,u] (richCompare .Gt u v >>= _)) _ >>= _) _ _ _
   refine wpAny_bind (wpAny_tryCatch (wpAny_holding (wpAny_bind (Fi (k+1) (argBest bt k) u v _ _ _ hu hv (wpAny_bind (wpAny_holding (wpAny_truthy_bool (wpAny_bind (wpAny_letGo (wpAny_pure ?_))))))))))
   cases hc:bt (k+1) (argBest bt k) with
   | true=>
    refine wpAny_bind (wpAny_updateSeq Dc rfl (wpAny_bind (wpAny_letGo ?_)))
    rw[nm]
    exact wpAny_pure ⟨plainId_quiet F.plain_max_loop _,next (by unfold argBest;rw[if_pos hc];exact hu)⟩
   | false=>
    refine wpAny_bind (wpAny_letGo ?_)
    rw[nm]
    exact wpAny_pure ⟨plainId_quiet F.plain_max_loop _,ih (k+1+1) _ #[v,v] c (by omega) bP av (.inr ⟨k+1,v,rfl,by unfold argBest;rw[if_neg (by rw[hc];decide)];exact hv,rfl⟩) Dc fun y h'' tk'' hy hk''=>hR y h'' tk'' hy fun b o h1 h2 e=>hk'' b o h1 h2 (hk b o h1 e)⟩
end
variable {X:Cx}
theorem maxD (K:Jd)(hc:X.calm=true)(hK:X.K=K:=by rfl):oA X "max" [Str.ofString "default"] (fun xs zs H Q=>dR fun(p:Addr) (ns:List Int) (d:Int)=>xs=[.ref p]/\zs=[.int d]/\aB K H p (ns.map V.int)/\∀M,(ns=[]/\M=d)∨(M∈ns/\∀a∈ns,a<=M)->Q (.int M) H):=by
 subst hK
 intro pins s σ H xs us zs ws Q I r1 r2 h
 refine ae.el (h) _ ?_
 rintro p ns d rfl rfl hq q
 refine ae.el (vals1 r1) _ ?_
 rintro u rfl ru
 refine ae.el (vals1 r2) _ ?_
 rintro z rfl rz
 cases ru
 have A4:(toString "max" ++ toString ".loop" : String) = "max.loop":=by decide
 show wpAny _ _ (call (.builtin "max") [.ref p] [(Str.ofString "default",z)]) _ _ _
 refine kmk_tree PySem.F.kind_max PySem.F.plain_max PySem.F.entry_max (qK _ _) ?_
 change wpAny _ X.A.in1 (Bind.bind (Builtin.Builtins.bindParams "max" ["key", "default"] 0 ⟨[],[(Str.ofString "default",z)]⟩) _) _ _ s
 refine wpAny_bind (wpAny_of_eq (show Builtin.Builtins.bindParams "max" ["key", "default"] 0 ⟨[],[(Str.ofString "default",z)]⟩=pure [none,some z] from rfl) (wpAny_bind (wpAny_pure ?_)))
 refine wpAny_bind (h7 (A:=X.A.in1) (I.ok.hd hc) I hq fun au it s2 rv hz W st bP hI =>?_)
 have hl:au.toArray.size=ns.length:=by have:=rv.length;simp at this ⊢;omega
 refine wpAny_bind (wpAny_newObj_type ?_)
 have Kg:s2.heap.objs.size∉[it,p]:=fun hm=>U6 _ (bP _ hm)
 rw[A4]
 refine wpAny_pure ⟨plainId_quiet PySem.F.plain_max_loop _,qZ (bt:=fun i j=>decide (ns.getD i 0>ns.getD j 0)) W ?_ Kg _ 0 _ _ _ rfl (Um _) (W.frame _ _ _ st fun b _ o e=>Jc _ e) (.inl ⟨rfl,rfl⟩) (Js _ rfl) fun v h' tk hP hk =>?_⟩
 ·refine CmpOf.ints_gt (fun i=>ns.getD i 0) fun{i v} e =>?_
  obtain⟨n,t,h1,rfl⟩:=int_at rv e
  exact⟨t,by simp[List.getD,h1]⟩
 ·have I2:=hI h' tk fun b o hbw e=>hk b o hbw (J5 (Jm e)) (Jc _ e)
  rcases hP with ⟨h0,rfl⟩|⟨h0,e⟩
  ·exact⟨.int d,H,I2,rz,q d (.inl ⟨Ux (by omega),rfl⟩)⟩
  ·obtain⟨n,t,h1,rfl⟩:=int_at rv e
   obtain⟨b1,b2⟩:=argBest_gt (fun i=>ns.getD i 0) (au.toArray.size-1)
   refine⟨.int n,H,I2,⟨_,rfl⟩,q n (.inr ⟨Yo h1,fun a ha =>?_⟩)⟩
   obtain⟨j,hj⟩:=List.getElem?_of_mem ha
   have Ad:j<ns.length:=(Ju.mp hj).1
   have z:=b2 j (by omega)
   have e1:ns.getD j 0=a:=by simp[List.getD,hj]
   have e2:ns.getD (argBest (fun i j=>decide (ns.getD i 0>ns.getD j 0)) (au.toArray.size-1)) 0=n:=by rw[Yq,h1];rfl
   rw[<-e1,<-e2]
   exact z
section
variable {X:Cx}
theorem jm:∀{xs:List V} {us:List Value} (j:Nat),Vals xs us->Vals (xs.eraseIdx j) (us.eraseIdx j)
 | _,_,_,.nil=>by simp;exact .nil
 | _,_,0,.cons _ t=>by simpa using t
 | _,_,j+1,.cons h t=>by simpa using .cons h (jm j t)
end
open PySem.Calls Builtin Builtin.ObjectAttr
section
variable {prog:Program}{w:World}{A:Around}{E:Value->Shared->Prop}{h0:Heap}{g0:Array GenState}{d0:Drawn}{t0:Nat}{K9:OsState}{nm qn:Str}{C N fi:Addr}{bs up tail:List Value}{JU:Bool}{sn:List Str}{sub:List Value}{ab:Bool}
 {col:Option Bool} {dd:Option Addr} {k0 k1 k2 k3 k5:Option Value} {B newId Gb:String}
end
section
variable {X:Cx}{pins:List (Addr×Obj)}{σ:St}{H:Hp}{s:Shared}{a:Addr}{u v:HO}
theorem Inv.su (I:Inv X pins σ H s)(hu:H a=some u)(nt:∀xs,u ≠ .tup xs)(nf:∀o w,X.H₀ a≠some (.frz o w))(nb:∀ps,u ≠ .tbl ps)(no:∀y,u ≠ .own y)(hv:∀H',(∀b,H b=some (.own a)->H' b=some (.own a))->(∀b xs,H b=some (.tup xs)->H' b=some (.tup xs))->ba X.prog X.w H' s.heap a v):
  Inv X pins σ (upd H a v) s:=by
 have iB:∀{b:Addr},H b=none->b≠a:=fun e z=>by rw[z,hu] at e;cases e
 have own:∀b y,H b=some (.own y)->upd H a v b=some (.own y):=fun b y e=>by
  rw[aj (fun z=>by rw[z,hu] at e;exact no y (Option.some.inj e))];exact e
 have tup:∀b xs,H b=some (.tup xs)->upd H a v b=some (.tup xs):=fun b xs e=>by
  rw[aj (fun z=>by rw[z,hu] at e;exact nt xs (Option.some.inj e))];exact e
 refine⟨I.ok,I.os,I.bare,⟨I.base.keep,I.base.slot,fun b o q n hx =>?_,I.base.there,fun b xs q=>tup b xs (I.base.fw b xs q),fun b o w q =>?_,fun b ps q =>?_⟩,I.loc,I.cell,?_,fun x c e =>?_,fun p hp =>?_,fun b o e =>?_,I.len⟩
 ·have:=I.base.free b o q n hx
  rw[aj (iB this)];exact this
 ·have:=I.base.dH b o w q
  rw[aj (fun z=>by rw[z] at q;exact nf _ _ q)];exact this
 ·obtain⟨more,e⟩:=I.base.fR b ps q
  exact⟨more,by rw[aj (fun z=>by rw[z,hu] at e;exact nb _ (Option.some.inj e))];exact e⟩
 ·rw[aj (iB I.free)];exact I.free
 ·rw[aj (iB (I.freeC x c e))];exact I.freeC x c e
 ·obtain⟨p1,p2,p3⟩:=I.pin p hp
  exact⟨p1,by rw[aj (iB p2)];exact p2,p3⟩
 ·by_cases z:b=a
  ·subst z
   rw[aE] at e
   cases e
   exact hv _ (fun b e=>own b _ e) tup
  ·rw[aj z] at e
   exact(I.aN b o e).lu (fun _ _ _ q=>q) (fun b e=>own b _ e) tup
theorem Inv.freeze {kvs:List (Key×V)}(I:Inv X pins σ H s)(h:H a=some (.dK kvs)):∃ob ep vs,s.heap.get? a=some ob/\KV kvs vs/\(a==sysModules)=false/\(∀h':Heap,h'.get? a=some ob->h'.DictAt (aP X.prog X.w) a vs ep)/\Inv X pins σ (upd H a (.frz ob (.dK kvs))) s:=by
 obtain⟨z,ns,vs,kv,o,es,ep,e,r⟩:=I.aN a _ h
 refine⟨o,ep,vs,e,kv,ns,fun h' e'=>⟨o,es,e',r⟩,I.su h (fun _ z=>nomatch z) (fun o w q =>?_) (fun _ z=>nomatch z) (fun _ z=>nomatch z) fun H' _ _=>⟨e,z,ns,vs,kv,o,es,ep,e,r⟩⟩
 have:=I.base.dH a o w q
 rw[h] at this;cases this
theorem Inv.EG {ob:Obj}{kvs:List (Key×V)}(I:Inv X pins σ H s)(h:H a=some (.frz ob (.dK kvs)))(nf:∀o w,X.H₀ a≠some (.frz o w)):Inv X pins σ (upd H a (.dK kvs)) s:=by
 obtain⟨e,z,ns,vs,kv,o,es,ep,e',r⟩:=I.aN a _ h
 exact I.su h (fun _ z=>nomatch z) nf (fun _ z=>nomatch z) (fun _ z=>nomatch z) fun H' _ _=>⟨z,ns,vs,kv,o,es,ep,e',r⟩
end
noncomputable def G6 (ob:Obj)(a:Addr)(kvs:List (Key×V)):It:=⟨fun i H=>H a=some (.frz ob (.dK kvs))/\i<kvs.length,fun i H x H'=>H'=H/\∃q,kvs[i]? = some q/\x=kV q.1,fun i H=>H a=some (.frz ob (.dK kvs))/\kvs.length<=i⟩
theorem yQ {kvs:List (Key×V)}{vs:List (Key×Value)}(h:KV kvs vs):∀{i:Nat} {q:Key×V},kvs[i]? = some q->∃z,vs[i]? = some (q.1,z):=by
 induction h with
 | nil=>intro i q e;exact nomatch(List.getElem?_nil.symm.trans e)
 | cons h t ih=>
  intro i q e
  cases i with
  | zero=>cases e;exact⟨_,by rw[h.1];rfl⟩
  | succ i=>exact ih (i:=i) e
theorem oQ {P:Program}{w:World}{K:Jd}{tg:Expr}{a it:Addr}{ob:Obj}{ep:Nat}{kvs:List (Key×V)}{vs:List (Key×Value)}(kv:KV kvs vs)(D:∀h':Heap,h'.get? a=some ob->h'.DictAt (aP P w) a vs ep):
  Turn P w K tg (G6 ob a kvs) [it] it (fun i h=>h.IsKeyIter it a i vs.length ep) where
 mem:=by simp
 obj:=fun i h st b hb=>by
  have e:b=it:=by simpa using hb
  subst e
  obtain⟨o,e,c,d⟩:=st
  exact⟨o,e,fun v z=>by rw[d] at z;cases z⟩
 keep:=fun i h h' st k=>by
  obtain⟨o,e,c,d⟩:=st
  exact⟨o,k it (by simp) o e,c,d⟩
 item:=by
  intro X hP hw hK hc i pins s σ H E I hf st hg
  subst hP hw hK
  obtain⟨ha,hi⟩:=hg
  obtain⟨f0,f1,f2,f3,f4,f5⟩:=hf it (by simp)
  obtain⟨z,hz⟩:=yQ kv (Jf hi)
  refine wpAny_pyNext_dict_item (knd:=aP X.prog X.w) st (D _ (I.aN a _ ha).1) hz fun key h' hk av sb =>?_
  have I1:Inv X pins σ H { s with heap:=h' }:=I.turned (t':=s.toks) (fun b o hb e=>(sb.2 b hb).trans e) f0 f1 f3 f4 f5
  obtain⟨o,e,c,d⟩:=id av
  have rk:RelV (kV kvs[i].1) key:=by
   rcases bf hk with ⟨n,t,e1,e2⟩|⟨x,t,e1,e2⟩
   ·rw[e1,e2];exact⟨t,rfl⟩
   ·rw[e1,e2];exact⟨t,rfl⟩
  exact⟨_,rfl,qo (s:={ s with heap:=h' }) e c d (by decide) ⟨_,H,I1,rk,⟨rfl,_,Jf hi,rfl⟩,av,fun b hb=>(hf b hb).1⟩⟩
 done:=by
  intro X hP hw hK hc i pins s σ H E I hf st hg
  subst hP hw hK
  obtain⟨ha,hi⟩:=hg
  obtain⟨f0,f1,f2,f3,f4,f5⟩:=hf it (by simp)
  exact wpAny_pyNext_dict_end (knd:=aP X.prog X.w) (I.ok.hd hc) st (D _ (I.aN a _ ha).1) (List.getElem?_eq_none (by rw[<-kv.length];exact hi)) fun h' eb=>⟨rfl,I.turned (t':=s.toks) (fun b o hb e=>eb b o hb e) f0 f1 f3 f4 f5⟩
 self:=fun A i s Q E st h=>wpAny_pyIter_keyiter st h
noncomputable def zK (tl:TE):TI:=fun σ H R=>tl σ H fun x H1=>bV fun(a:Addr) (kvs:List (Key×V))=>x = .ref a/\H1 a=some (.dK kvs)/\∀ob,R (G6 ob a kvs) (upd H1 a (.frz ob (.dK kvs)))
theorem nJ {X:Cx}{tg l:Expr}{tl:TE}(hl:PE X l tl):PI X tg l (zK tl):=by
 intro pins s σ H R I h
 refine aM (hl s σ H _ I h) fun v s1 ⟨x,H1,I1,r1,a,kvs,e,ha,q⟩=>?_
 subst e
 cases r1
 refine ae.el (I1.freeze ha) _ ?_
 rintro ob ep vs eo kv ns D I2
 refine wpAny_pyIter_dict (knd:=aP X.prog X.w) ns (D _ eo) ?_
 have hk:∀b o,s1.heap.get? b=some o->(s1.heap.push { cls := .type "dict_keyiterator",data := .fields #[.ref a,.int 0 0,.int vs.length 0,.int ep 0] }).get? b=some o:=fun b o e=>Jc _ e
 have I3:=I2.kept (t':=s1.toks) hk
 refine⟨_,_,_,_,_,rfl,I3,oQ kv D,⟨_,Js _ rfl,rfl,rfl⟩,fun c hc =>?_,q ob⟩
 have sC:s1.heap.objs.size<=c:=by
  simp at hc
  rw[hc];exact Je _
 exact I2.iE sC (I2.aN.fresh sC)
noncomputable def BW (te:TE):TE:=fun σ H Q=>∃a,(∃kvs,H a=some (.dK kvs))/\te σ H fun v H'=>∃ob kvs,H' a=some (.frz ob (.dK kvs))/\Q v (upd H' a (.dK kvs))
theorem wq {X:Cx}{e:Expr}{te:TE}(h:PE X e te):PE X e (BW te):=by
 intro pins s σ H Q I hq
 obtain⟨a,⟨kvs,ha⟩,q⟩:=hq
 have nf:∀o w,X.H₀ a≠some (.frz o w):=fun o w z=>by
  have:=I.base.dH a o w z
  rw[ha] at this;cases this
 refine aM (h s σ H _ I q) fun u s1 ⟨v,H1,I1,r1,ob,bD,h1,q1⟩=>⟨v,_,I1.EG h1 nf,r1,q1⟩
section
variable {prog:Program}{w:World}{A:Around}{E:Value->Shared->Prop}{s:Shared}{d it:Addr}{o od:Obj}{es:Array DictEntry}{i ep:Nat}
theorem oO {Q:Value->Shared->Prop}(nm:(d==sysModules)=false)(ty:s.TypeIs (.ref d) "dict")(od:s.heap.get? d=some o)(da:o.data = .dict es ep)
  (k:Q (.ref s.heap.objs.size) { s with heap:=s.heap.push { cls := .type "dict_keyiterator",data := .fields #[.ref d,.int 0 0,.int es.size 0,.int ep 0] } }):wpAny (model prog w) A (pyIter (.ref d)) Q E s:=by
 refine wpAny_pyIter_slot ty F.slot_dict_iter (wpAny_call_entry F.slot_dict_iter ty F.entry_dict_iter (wpAny_bind (wpAny_bind (wpAny_notOrdered_dict ty (wpAny_pure (wpAny_bind ?_))))) (F.args_dict_iter_1 _))
 change wpAny _ _ (pure d) _ _ _
 refine wpAny_pure (wpAny_bind ?_)
 unfold Builtin.Dict.showsAll
 rw[nm]
 exact wpAny_pure (wpAny_bind (wpAny_dictEntries od da (wpAny_bind (wpAny_dictEpoch od da (wpAny_bind (wpAny_newObj_type (wpAny_pure ⟨_,rfl,_,_,⟨_,Js _ rfl,rfl⟩,F.slot_dict_keyiterator_next.lookup,by simpa [rawInt] using k⟩)))))))
theorem jo {Q:Option Value->Shared->Prop}(hit:s.heap.IsKeyIter it d i es.size ep)(G5:s.heap.get? d=some od)(C9:od.data = .dict es ep)(calm:es.size<=i->A.handled=none)
  (more:∀(bP:i<es.size) (h':Heap),h'.IsKeyIter it d (i+1) es.size ep->Yd it s.heap h'->Q (some es[i].key) { s with heap:=h' })
  (done:es.size<=i->∀h':Heap,Heap.ExtBut it s.heap h'->Q none { s with heap:=h' }):wpAny (model prog w) A (pyNext (.ref it)) Q E s:=by
 have ty:=hit.typeIs
 obtain⟨o,ho,hc,hd⟩:=id hit
 unfold pyNext
 refine wpAny_bind (wpAny_attempt (wpAny_callSpecial?_slot (name:=Str.ofString "__next__") ty F.slot_dict_keyiterator_next (wpAny_call_entry F.slot_dict_keyiterator_next ty F.entry_dict_keyiterator_next (wpAny_bind (wpAny_pure (wpAny_bind (wpAny_bind ?_)))) (F.args_dict_keyiterator_next_1 _))))
 first|refine wpAny_bind (wpAny_typeNameOfWhole_keyiter ty (wpAny_pure (wpAny_bind (wpAny_fieldsOf ho hd ?_))))|refine wpAny_bind (wpAny_typeNameOf_keyiter ty (wpAny_pure (wpAny_bind (wpAny_fieldsOf ho hd ?_))))
 simp -iota only [show Builtin.Dict_items.ownsTuple "dict_keyiterator" = false by decide,J6,if_false]
 change wpAny _ _ (if (Value.ref d==Value.none)=true then _ else _) _ _ _
 rw[if_neg (show(Value.ref d==Value.none)≠true from Jk)]
 refine wpAny_bind (wpAny_pure (wpAny_bind (wpAny_dictEntries G5 C9 ?_)))
 rw[if_neg (by simp)]
 refine wpAny_bind (wpAny_pure (wpAny_bind (wpAny_dictEpoch G5 C9 ?_)))
 rw[if_neg (by simp)]
 refine wpAny_pure ?_
 rcases Nat.lt_or_ge i es.size with bP|hge
 ·dsimp only
  simp -iota only [show ¬(i:Int)<0 by omega,if_false,Uz,J8 bP]
  dsimp only
  refine wpAny_bind ?_
  first|refine wpAny_bind (wpAny_typeNameOfWhole_keyiter ty (wpAny_pure (wpAny_bind (wpAny_isOneOf_keyiter ty ?_))))|refine wpAny_bind (wpAny_typeNameOf_keyiter ty (wpAny_pure (wpAny_bind (wpAny_isOneOf_keyiter ty ?_))))
  change wpAny _ _ (setField (.ref it) 1 (rawInt ((i:Int)+1)) >>= _) _ _ _
  refine wpAny_bind (wpAny_setField ho hd (by simp) (wpAny_bind (wpAny_holding ?_)))
  have moved:(s.heap.update it (Obj.mapFields (·.setIfInBounds 1 (rawInt ((i:Int)+1))))).IsKeyIter it d (i+1) es.size ep:=by
   refine⟨_,Us _ ho (Obj.isFreed_of_fields (Obj.data_mapFields hd _)),by rw[Obj.cls_mapFields];exact hc,?_⟩
   rw[Obj.data_mapFields hd]
   simp[rawInt]
  have JB:Shared.TypeIs { s with heap:=s.heap.update it (Obj.mapFields (·.setIfInBounds 1 (rawInt ((i:Int)+1)))) } (.ref it) "dict_keyiterator":=moved.typeIs
  refine wpAny_bind (wpAny_isOneOf_keyiter JB ?_)
  change wpAny _ _ (pure es[i].key) _ _ _
  exact wpAny_pure (wpAny_pure ⟨_,rfl,wpAny_pure (more bP _ moved (Yd.update ..))⟩)
 ·dsimp only
  simp -iota only [show ¬(i:Int)<0 by omega,if_false,Uz,Yf hge]
  dsimp only
  refine wpAny_bind ?_
  first|refine wpAny_bind (wpAny_typeNameOfWhole_keyiter ty (wpAny_pure ?_))|refine wpAny_bind (wpAny_typeNameOf_keyiter ty (wpAny_pure ?_))
  change wpAny _ _ (setField (.ref it) 0 .none >>= _) _ _ _
  refine wpAny_bind (wpAny_setField ho hd (by simp) ?_)
  change wpAny _ _ (newExc (.type "StopIteration") [] >>= _) _ _ _
  refine wpAny_bind ?_
  simp only[newExc,newTuple]
  refine wpAny_bind (wpAny_newObj_type (wpAny_bind (m:=firstArgMember _ _) (wpAny_of_eq (a:=Value.none) (by first|rfl|(simp only[firstArgMember];rfl)) (wpAny_newObj_type ?_ (by size_fits)))) (by size_fits))
  simp -iota only [raiseNew]
  refine wpAny_bind (wpAny_handled ?_)
  rw[show A.in1.handled=none from calm hge]
  refine wpAny_bind (wpAny_pure (wpAny_throw ?_))
  exact wpAny_bind (wpAny_isInstance (T := "StopIteration") (b:=true) ⟨_,Js _ rfl,rfl⟩ isSubtype_stop (wpAny_pure (done hge _ (((Yd.update ..).extBut.push _).push _))))
end
section
variable {X:Cx}{pins:List (Addr×Obj)}{σ:St}{H:Hp}{s:Shared}{a:Addr}{u v:HO}
theorem Inv.wM {kvs:List (List Key×V)}(I:Inv X pins σ H s)(h:H a=some (.dT kvs)):dR fun ob es ep=>s.heap.get? a=some ob/\ob.data = .dict es ep/\es.size=kvs.length/\(a==sysModules)=false/\s.TypeIs (.ref a) "dict" /\ Inv X pins σ (upd H a (.frz ob (.dT kvs))) s:=by
 obtain⟨z,ns,xs,kt,o,es,ep,e,ex,hd,he,nd⟩:=(show ba X.prog X.w H s.heap a (.dT kvs) from I.aN a _ h)
 obtain⟨_,_,_,_,dd⟩:=tO I.aN h
 refine⟨o,es,ep,e,hd,?_,ns,dd.typeIs,I.su h (fun _ z=>nomatch z) (fun o w q =>?_) (fun _ z=>nomatch z) (fun _ z=>nomatch z) fun H' _ ht=>⟨e,z,ns,xs,KT.keeps kt ht,o,es,ep,e,ex,hd,he,nd⟩⟩
 ·have:=congrArg Ue he
  rw[Ja,<-Paired.length kt] at this
  exact this
 ·have:=I.base.dH a o w q
  rw[h] at this;cases this
end
theorem kt_at {H:Hp}{kvs:List (List Key×V)}{xs:List (List Key×Addr×Value)}(r:KT H kvs xs):∀{i:Nat} {q:List Key×V},kvs[i]? = some q->∃b v,xs[i]? = some (q.1,b,v)/\H b=some (.tup (q.1.map kV)):=by
 induction r with
 | nil=>intro i q e;simp at e
 | @cons p x ps xs h t ih=>
  intro i q e
  cases i with
  | zero=>
   cases e
   obtain⟨k,b,v⟩:=x
   obtain⟨rfl,h2,_⟩:=h
   exact⟨b,v,rfl,h2⟩
  | succ i=>exact ih e
noncomputable def Hx (ob:Obj)(a:Addr)(kvs:List (List Key×V)):It:=⟨fun i H=>H a=some (.frz ob (.dT kvs))/\i<kvs.length,fun i H x H'=>H'=H/\bV fun(q:List Key×V) (b:Addr)=>kvs[i]? = some q/\x = .ref b/\H b=some (.tup (q.1.map kV)),fun i H=>H a=some (.frz ob (.dT kvs))/\kvs.length<=i⟩
theorem oz {P:Program}{w:World}{K:Jd}{tg:Expr}{a it:Addr}{ob:Obj}{es:Array DictEntry}{ep:Nat}{kvs:List (List Key×V)}(hd:ob.data = .dict es ep)(hz:es.size=kvs.length):
  Turn P w K tg (Hx ob a kvs) [it] it (fun i h=>h.IsKeyIter it a i es.size ep) where
 mem:=by simp
 obj:=fun i h st b hb=>by
  have e:b=it:=by simpa using hb
  subst e
  obtain⟨o,e,c,d⟩:=st
  exact⟨o,e,fun v z=>by rw[d] at z;cases z⟩
 keep:=fun i h h' st k=>by
  obtain⟨o,e,c,d⟩:=st
  exact⟨o,k it (by simp) o e,c,d⟩
 item:=by
  intro X hP hw hK hc i pins s σ H E I hf st hg
  subst hP hw hK
  obtain⟨ha,hi⟩:=hg
  obtain⟨f0,f1,f2,f3,f4,f5⟩:=hf it (by simp)
  obtain⟨e,z,ns,xs,kt,o,es',ep',e',ex,hd',he,nd⟩:=(show ba X.prog X.w H s.heap a (.frz ob (.dT kvs)) from I.aN a _ ha)
  rw[e] at e';cases e'
  rw[hd] at hd';cases hd'
  have bP:i<es.size:=by omega
  obtain⟨b,v,hx,hb⟩:=kt_at kt (Jf hi)
  have yx:es[i].key = .ref b:=by
   have e1:es.toList[i]? = some es[i]:=by rw[Ub,J8 bP]
   rw[he,Jn,hx] at e1
   have e1:=Option.some.inj e1
   rw[<-e1];rfl
  refine jo st e hd (fun z=>absurd bP (Nat.not_lt.mpr z)) (fun _ h' av sb =>?_) fun z=>absurd bP (Nat.not_lt.mpr z)
  have I1:Inv X pins σ H { s with heap:=h' }:=I.turned (t':=s.toks) (fun b o hb e=>(sb.2 b hb).trans e) f0 f1 f3 f4 f5
  obtain⟨o,e,c,d⟩:=id av
  refine⟨_,rfl,qo (s:={ s with heap:=h' }) e c d (by decide) ⟨.ref b,H,I1,yx,⟨rfl,_,b,Jf hi,rfl,hb⟩,av,fun b hb=>(hf b hb).1⟩⟩
 done:=by
  intro X hP hw hK hc i pins s σ H E I hf st hg
  subst hP hw hK
  obtain⟨ha,hi⟩:=hg
  obtain⟨f0,f1,f2,f3,f4,f5⟩:=hf it (by simp)
  refine jo st (show ba X.prog X.w H s.heap a (.frz ob (.dT kvs)) from I.aN a _ ha).1 hd (fun _=>I.ok.hd hc) (fun z=>by omega) fun _ h' eb=>⟨rfl,I.turned (t':=s.toks) (fun b o hb e=>eb b o hb e) f0 f1 f3 f4 f5⟩
 self:=fun A i s Q E st h=>wpAny_pyIter_keyiter st h
noncomputable def zI (tl:TE):TI:=fun σ H R=>tl σ H fun x H1=>bV fun(a:Addr) (kvs:List (List Key×V))=>x = .ref a/\H1 a=some (.dT kvs)/\∀ob,R (Hx ob a kvs) (upd H1 a (.frz ob (.dT kvs)))
theorem sQ {X:Cx}{tg l:Expr}{tl:TE}(hl:PE X l tl):PI X tg l (zI tl):=by
 intro pins s σ H R I h
 refine aM (hl s σ H _ I h) fun v s1 ⟨x,H1,I1,r1,a,kvs,e,ha,q⟩=>?_
 subst e
 cases r1
 refine ae.el (I1.wM ha) _ ?_
 rintro ob es ep eo hd hz ns hT I2
 refine oO ns hT eo hd ?_
 have hk:∀b o,s1.heap.get? b=some o->(s1.heap.push { cls := .type "dict_keyiterator",data := .fields #[.ref a,.int 0 0,.int es.size 0,.int ep 0] }).get? b=some o:=fun b o e=>Jc _ e
 have I3:=I2.kept (t':=s1.toks) hk
 refine⟨_,_,_,_,_,rfl,I3,oz hd hz,⟨_,Js _ rfl,rfl,rfl⟩,fun c hc =>?_,q ob⟩
 have sC:s1.heap.objs.size<=c:=by
  simp at hc
  rw[hc];exact Je _
 exact I2.iE sC (I2.aN.fresh sC)
noncomputable def Ct (p:Addr)(Q:VK):List (V×V)->Hp->Prop
 | [(y,v)],H2=>H2 p=some (.dT [])/\bV fun(k:List Key) (b:Addr)=>y = .ref b/\H2 b=some (.tup (k.map kV))/\∀H3,iO H2 p (.dT [(k,v)]) H3->Q (.ref p) H3
 | _,_=>False
noncomputable def zB (tk tv:TE):TE:=fun σ H Q=>∀p H0,dz H p (.dT []) H0->tk σ H0 fun y H1=>tv σ H1 fun v H2=>H2 p=some (.dT [])/\bV fun(k:List Key) (b:Addr)=>y = .ref b/\H2 b=some (.tup (k.map kV))/\∀H3,iO H2 p (.dT [(k,v)]) H3->Q (.ref p) H3
theorem mh {X:Cx}{pos:Pos}{k v:Expr}{tk tv:TE}(hu:X.A.units+1<cLine)(hk:PE X k tk)(hv:PE X v tv):PE X (.Dict [some k] [v] pos) (zB tk tv):=by
 intro pins s σ H Q I q
 have hn:=I.aN.fresh (Je s.heap.objs.size)
 have I1:=I.laid (a:=s.heap.objs.size) (o := .dT []) (h':=s.heap.push { cls := .type "dict",data := .dict #[] }) (t':=s.toks) (fun _ _ q=>Jc _ q) (Je _) (tQ s.heap I.big)
 have hp:=jC (X:=X) (pos:=pos) hk hv pB
 refine wpAny_Dict_any rfl rfl (by simp) (by show 1<=15;decide) (aM (hp _ σ _ (Ct s.heap.objs.size Q) I1 (q _ _ ⟨hn,rfl⟩)) fun ws s2 hz_ =>?_)
 refine ae.el hz_ _ ?_
 clear hz_
 intro ps H2 I2 rel hP
 cases ps with
 | nil=>exact False.elim hP
 | cons yv ps=>
 cases ps with
 | cons _ _=>exact False.elim hP
 | nil=>
  obtain⟨y,v⟩:=yv
  obtain⟨e,k,b,rfl,eb,q2⟩:=hP
  cases rel with
  | @cons p r ps qs h t=>
   cases t
   obtain⟨ku,vu⟩:=r
   obtain⟨r1,r2⟩:=h
   cases (show ku=Value.ref b from r1)
   obtain⟨z,hd,xs,kt,dd⟩:=tO I2.aN e
   cases kt
   unfold storeAll
   rw[List.forIn_cons]
   refine wpAny_bind (wpAny_bind (wpAny_dictSet_heap (knd:=tupleKind (aP X.prog X.w)) (show X.A.units<cLine by omega) (gY I2.aN eb) dd fun h' dd' hs=>wpAny_pure ?_))
   refine wpAny_pure ⟨.ref s.heap.objs.size,_,?_,rfl,q2 _ ⟨rfl⟩⟩
   obtain⟨q,es,ep,hq,h2,h3,h4,_,h5⟩:=dd'
   refine fH I2 (by rw[e];exact True.intro) hs ⟨q,hq⟩ ⟨by show 1<=sizeLine;decide,hd,_,(KT.put (kvs:=[]) .nil k eb r2).keeps fun c ys ec =>?_,q,es,ep,hq,h2,h3,h4,h5⟩
   rw[aj (uC ec e (fun z=>nomatch z))]
   exact ec
noncomputable def DN (H:Hp)(a:Addr)(n:Nat):Prop:=(∃kvs,Rd H a (.dK kvs)/\n=kvs.length)∨∃kvs,Rd H a (.dT kvs)/\n=kvs.length
theorem rW {P:Program}{w:World}{H:Hp}{s:Shared}{a:Addr}{n:Nat}(ok:d6 P w H s.heap)(h:DN H a n):dR fun o es ep=>s.heap.get? a=some o/\o.data = .dict es ep/\es.size=n/\(a==sysModules)=false/\s.TypeIs (.ref a) "dict":=by
 rcases h with ⟨kvs,e,rfl⟩|⟨kvs,e,rfl⟩
 ·obtain⟨z,hd,vs,rel,dd⟩:=jb ok e
  have ht:=dd.typeIs
  obtain⟨o,es,ep,ho,hc,hdat,hk,hp,hn⟩:=dd
  refine⟨o,es,ep,ho,hdat,?_,hd,ht⟩
  have:=hp.length
  rw[rel.length,<-this];simp
 ·obtain⟨z,hd,xs,rel,dd⟩:=kC ok e
  have ht:=dd.typeIs
  obtain⟨o,es,ep,ho,hc,hdat,he,_,hn⟩:=dd
  refine⟨o,es,ep,ho,hdat,?_,hd,ht⟩
  have:=congrArg Ue he
  rw[Ja,<-Paired.length rel] at this
  exact this
noncomputable def EM:R2:=fun x y H Q=>dR fun(a b:Addr) (n:Nat)=>x = .ref a/\y = .ref b/\DN H a n/\DN H b 0/\Q (.bl (n==0)) H
theorem JL {X:Cx}(hu:X.A.units<cLine):dC X (compareOp .Eq) EM:=by
 intro pins s σ H x y u v Q I rx ry h
 obtain⟨a,b,n,rfl,rfl,da,db,q⟩:=h
 cases (show u=Value.ref a from rx)
 cases (show v=Value.ref b from ry)
 obtain⟨oa,es,ep,hoa,hda,rO,hna,ta⟩:=rW I.aN da
 obtain⟨ob,es',ep',F0,sH,xB,hnb,tb⟩:=rW I.aN db
 refine wpAny_richCompare_same_room (op := .Eq) ta tb PySem.F.slot_dict_eq (wpAny_call_entry PySem.F.slot_dict_eq ta PySem.F.entry_dict_eq ?_ (PySem.F.args_dict_eq_2 _ _)) hu
 show wpAny _ _ (Builtin.Dict.dictSlotArgs "__eq__" ⟨[.ref a,.ref b],[]⟩ >>= _) _ _ s
 refine wpAny_bind ?_
 unfold Builtin.Dict.dictSlotArgs
 refine wpAny_bind (wpAny_notOrdered_dict ta ?_)
 show wpAny _ _ (pure (Value.ref a,Value.ref b)) _ _ s
 refine wpAny_pure ?_
 refine wpAny_bind (wpAny_isInstance (T := "dict") tb PySem.F.sub_dict_dict ?_)
 simp only[Bool.not_true,J6,if_false]
 refine wpAny_bind (wpAny_pure (wpAny_bind (wpAny_pure ?_)))
 refine wpAny_bind ?_
 unfold Builtin.Dict.samePairs Builtin.Dict.showsAll
 rw[if_neg (show ¬(a==sysModules)=true by rw[hna];exact Jk),if_neg (show ¬(b==sysModules)=true by rw[hnb];exact Jk)]
 refine wpAny_bind (wpAny_pure (wpAny_bind (wpAny_pure ?_)))
 refine wpAny_bind (wpAny_dictEntries hoa hda ?_)
 dsimp only
 refine wpAny_bind (wpAny_dictEntries F0 sH ?_)
 by_cases hz:n=0
 ·rw[if_neg (by rw[rO,xB,hz];simp)]
  refine wpAny_bind (wpAny_dictEpoch hoa hda ?_)
  refine wpAny_bind ?_
  rw[Std.Legacy.Range.forIn_eq_forIn_range']
  have e0:es.size=0:=by omega
  rw[e0]
  refine wpAny_pure (wpAny_pure (wpAny_pure ⟨_,rfl,(fun x=>nomatch x),?_⟩))
  refine⟨_,H,I,?_,q⟩
  rw[hz];rfl
 ·rw[if_pos (by rw[rO,xB];simpa using hz)]
  refine wpAny_bind (wpAny_rule (wpAny_pure (wpAny_pure ⟨_,rfl,(fun x=>nomatch x),?_⟩)))
  refine⟨_,H,I,?_,q⟩
  have:(n==0)=false:=by simpa using hz
  rw[this];rfl
theorem uS {prog:Program}{w:World}{kvs:List (Key×V)}{vs:List (Key×Value)}(h:KV kvs vs):∀{au:List Value},au.length=vs.length ->
  (∀(j:Nat) v,au[j]? = some v->∃k x,vs[j]? = some (k,x)/\(aP prog w).is k v=true)->Vals (kvs.map fun q=>kV q.1) au:=by
 unfold KV at h
 induction h with
 | nil=>
  intro au hl _
  rw[Ux hl]
  exact .nil
 | @cons p q kvs vs h1 _ ih=>
  intro au hl h
  cases au with
  | nil=>cases hl
  | cons v au=>
  refine .cons ?_ (ih (Nat.succ.inj hl) fun j u e=>h (j+1) u e)
  obtain⟨k,x,e1,e2⟩:=h 0 v rfl
  cases e1
  show RelV (kV p.1) v
  rw[show p.1=k from h1.1]
  rcases bf e2 with ⟨n,t,z1,z2⟩|⟨y,t,z1,z2⟩
  ·rw[z1,z2];exact⟨t,rfl⟩
  ·rw[z1,z2];exact⟨t,rfl⟩
section
variable {X:Cx}
theorem Cn (hc:X.calm=true):bN X (.type "list") (fun xs H Q=>bV fun(d:Addr) (kvs:List (Key×V))=>xs=[.ref d]/\H d=some (.dK kvs)/\∀p H',dz H p (.lst (kvs.map fun q=>kV q.1)) H'->Q (.ref p) H'):=by
 intro pins s σ H xs us Q I r h
 obtain⟨d,kvs,rfl,hd,q⟩:=h
 obtain⟨u,rfl,ru⟩:=vals1 r
 cases ru
 obtain⟨z,ns,vs,kv,o,es,ep,e,rr⟩:=I.aN d _ hd
 have kl:=kv.length
 refine kdl_call (kdl_dict (knd:=aP X.prog X.w) (kvs:=vs) (ep:=ep) ns) (I.ok.hd hc) ⟨o,es,e,rr⟩ (by omega) fun h' tk acc c k hS items =>?_
 refine⟨.ref s.heap.objs.size,_,I.laid (a:=s.heap.objs.size) (o := .lst (kvs.map fun q=>kV q.1)) (t':=tk) k (Je _) ⟨by rw[Ja];exact z,acc.toList,c,?_,by simpa using hS⟩,rfl,q _ _ ⟨I.aN.fresh (Je _),rfl⟩⟩
 exact uS kv (by rw[Jr];exact items.1) fun j v ej=>items.2 j v (by rw[<-Ub];exact ej)
end
section
variable {prog:Program}{w:World}{A:Around}{R:Result->Shared->Prop}{s:Shared}{kx vx t1 i1 t2 i2:Expr}{scope:Scope}{pos:Pos}{it:Value}{D:Addr}{env:Env}
theorem mi (I:Nat->Shared->Prop)
  (turn:∀n s,I n s->wpAny (model prog w) A (pyNext it) (fun r s1=>match r with
   | none=>R (.ok .next) s1
   | some v=>wpAny (model prog w) A (letOwnedTupleGo t2 it v) (fun _ s1'=>wpAny (model prog w) A (assign t2 env v) (fun _ s2=>
     wpAny (model prog w) A (eval kx env) (fun kv s4=>wpAny (model prog w) A (eval vx env) (fun vv s5=>
       wpAny (model prog w) A (dictSet D kv vv) (fun _ s6=>∃m,m<n/\I m s6) eQ s5) eQ s4) eQ s2) eQ s1') eQ s1) eQ s)
  (n:Nat) (h:I n s):codeAny (model prog w) A (.compLoop (.DictComp kx vx [⟨t1,i1,[],0⟩,⟨t2,i2,[],0⟩] scope pos) 1 it (.ref D) env) R s:=by
 refine codeAny_loop rfl I (fun n s hI=>(show wpAny _ A (Sem.onRaise (compTurn (.DictComp kx vx [⟨t1,i1,[],0⟩,⟨t2,i2,[],0⟩] scope pos) 1 it (.ref D) env) (fun x=>do noteFrame x env;theTreesLotGoes x)) _ _ s from wpAny_noted ?_)) n h
 refine wpAny_bind (wpAny_standAt (wpAny_bind (bg (aM (turn n s hI) fun r s1 h1 =>?_))))
 cases r with
 | none=>exact wpAny_pure h1
 | some v=>
  refine wpAny_bind (bg (aM h1 fun _ s1' h1' =>?_))
  refine wpAny_bind (bg (aM h1' fun _ s2 h3=>wpAny_bind (wpAny_pure (a:=true) ?_)))
  exact wpAny_bind (wpAny_bind (bg (aM h3 fun kv s4 h4=>wpAny_bind (wpAny_holding (bg (aM h4 fun vv s5 h5=>wpAny_bind (wpAny_standAt (wpAny_holding (bg (aM h5 fun _ s6 h6=>wpAny_pure ⟨rfl,h6⟩))))))))))
theorem mV (hs:∀x,foldedSetIterable i2 env x=pure x)(I:Nat->Shared->Prop)
  (turn:∀n s,I n s->wpAny (model prog w) A (pyNext it) (fun r s1=>match r with
   | none=>R (.ok .next) s1
   | some v=>wpAny (model prog w) A (letOwnedTupleGo t1 it v) (fun _ s1'=>wpAny (model prog w) A (assign t1 env v) (fun _ s2=>
     wpAny (model prog w) A (eval i2 env) (fun x s3=>wpAny (model prog w) A (pyIter x) (fun it2 s4=>
       codeAny (model prog w) A (.compStart (.DictComp kx vx [⟨t1,i1,[],0⟩,⟨t2,i2,[],0⟩] scope pos) 1 it2 (.ref D) env) (fun r s5=>match r with | .ok _=>∃m,m<n/\I m s5 | .error _=>False) s4) eQ s3) eQ s2) eQ s1') eQ s1) eQ s)
  (n:Nat) (h:I n s):codeAny (model prog w) A (.compLoop (.DictComp kx vx [⟨t1,i1,[],0⟩,⟨t2,i2,[],0⟩] scope pos) 0 it (.ref D) env) R s:=by
 refine codeAny_loop rfl I (fun n s hI=>(show wpAny _ A (Sem.onRaise (compTurn (.DictComp kx vx [⟨t1,i1,[],0⟩,⟨t2,i2,[],0⟩] scope pos) 0 it (.ref D) env) (fun x=>do noteFrame x env;theTreesLotGoes x)) _ _ s from wpAny_noted ?_)) n h
 refine wpAny_bind (wpAny_standAt (wpAny_bind (bg (aM (turn n s hI) fun r s1 h1 =>?_))))
 cases r with
 | none=>exact wpAny_pure h1
 | some v=>
  refine wpAny_bind (bg (aM h1 fun _ s1' h1' =>?_))
  refine wpAny_bind (bg (aM h1' fun _ s2 h3=>wpAny_bind (wpAny_pure (a:=true) ?_)))
  refine wpAny_bind (bg (aM h3 fun x s3 h4=>wpAny_bind (wpAny_standAt (wpAny_bind (wpAny_of_eq (hs x) (wpAny_bind (wpAny_holding (bg (aM h4 fun it2 s4 h5 =>?_)))))))))
  refine wpAny_bind (wpAny_runOwn (codeAny_mono h5 fun r s5 h6 =>?_))
  cases r with
  | ok f=>exact wpAny_pure ⟨rfl,h6⟩
  | error e=>exact h6.elim
theorem mY {acc:Value}(h0:codeAny (model prog w) A (.compLoop (.DictComp kx vx [⟨t1,i1,[],0⟩,⟨t2,i2,[],0⟩] scope pos) 1 it acc env) R s)
  (h:wpAny (model prog w) A (pyIter it) (fun it' s'=>codeAny (model prog w) A (.compLoop (.DictComp kx vx [⟨t1,i1,[],0⟩,⟨t2,i2,[],0⟩] scope pos) 1 it' acc env) R s') eQ s) :
  codeAny (model prog w) A (.compStart (.DictComp kx vx [⟨t1,i1,[],0⟩,⟨t2,i2,[],0⟩] scope pos) 1 it acc env) R s:=by
 refine codeAny_of_tree ?_
 show wpAny _ A ((compStart (.DictComp kx vx [⟨t1,i1,[],0⟩,⟨t2,i2,[],0⟩] scope pos) 1 it acc env).onRaise (fun x=>do noteFrame x env;standAt theWindowsPlace)) _ _ s
 refine wpAny_notedAt ?_
 unfold compStart
 show wpAny _ A (ask >>= _) _ _ s
 refine wpAny_bind (wpAny_askSetting (wpAny_ite ?_))
 split
 ·first
   | exact wpAny_bind (wpAny_pure (wpAny_pure (And.intro rfl h0)))
   | exact wpAny_pure (And.intro rfl h0)
 ·first
   | exact wpAny_bind (wpAny_rule (wpAny_bind (wpAny_standAt (wpAny_bind (bg (aM h fun it' s' h'=>wpAny_pure (And.intro rfl h')))))))
   | (refine wpAny_bind (wpAny_rule ?_);show wpAny _ _ (standAt i2.pos >>= _) _ _ s;exact wpAny_bind (wpAny_standAt (wpAny_bind (bg (aM h fun it' s' h'=>wpAny_pure (And.intro rfl h'))))))
end
noncomputable def sh (J:It)(n:Nat)(js:List Nat)(g:TG)(rP:TI)(i:Nat)(tk tv:TE)(σ:St)(D:Addr)(H1:Hp)(fin:Hp->Prop):Prop:=
 ∃W:Nat->Nat->Hp->Prop,(∃m,W 0 m H1)/\∀k m H,W k m H ->
  (J.stop k H/\fin H) ∨
  (J.go k H/\∀x H',J.yld k H x H'->g x (Jt n none++cq σ js) H' fun σ2 H2 =>σ2[i]? = some none/\rP σ2 H2 fun J2 H3=>∃V:Nat->Nat->Hp->Prop,(∃m2,V 0 m2 H3)/\∀k2 m2 H,V k2 m2 H ->
   (J2.stop k2 H/\∃m',m'<m/\W (k+1) m' H) ∨
   (J2.go k2 H/\∀y H',J2.yld k2 H y H'->tk (σ2.set i (some y)) H' fun kk H4=>tv (σ2.set i (some y)) H4 fun z H5=>bV fun kvs key=>H5 D=some (.dK kvs)/\kk=kV key/\kvs.length<sizeLine/\∃m',m'<m2/\V (k2+1) m' (upd H5 D (.dK (putK kvs key z)))))
noncomputable def xf (wi:TI)(n:Nat)(js:List Nat)(g:TG)(rP:TI)(i:Nat)(tk tv:TE):TE:=fun σ H Q=>wi σ H fun J H1=>∀D,H1 D=none->sh J n js g rP i tk tv σ D (upd H1 D (.dK [])) fun H2=>Q (.ref D) H2
section
variable {X:Cx}{kx vx t1 i1 t2 i2:Expr}{scope:Scope}{pos:Pos}{rP:TI}{i:Nat}{tk tv:TE}{pins:List (Addr×Obj)}{s:Shared}{σ:St}{H:Hp}{D:Addr}{fin:Hp->Prop}
theorem tJ (CZ:X.xe=eQ)(cg:X.calm=true)(rN:PI X t2 i2 rP)(Ak:PG X t2 (fC i))(ck:PE X kx tk)(rM:PE X vx tv)(I:Inv X pins σ H s)(h0: σ[i]? = some none)
  (h:rP σ H fun J2 H3=>∃V:Nat->Nat->Hp->Prop,(∃m2,V 0 m2 H3)/\∀k2 m2 H,V k2 m2 H->(J2.stop k2 H/\fin H) ∨
   (J2.go k2 H/\∀y H',J2.yld k2 H y H'->tk (σ.set i (some y)) H' fun kk H4=>tv (σ.set i (some y)) H4 fun z H5=>bV fun kvs key=>H5 D=some (.dK kvs)/\kk=kV key/\kvs.length<sizeLine/\∃m',m'<m2/\V (k2+1) m' (upd H5 D (.dK (putK kvs key z)))))
  {R:Shared->Prop} (q:∀H' s',Inv X pins σ H' s'->fin H'->R s') :
  wpAny (model X.prog X.w) X.A (eval i2 X.env) (fun x s3=>wpAny (model X.prog X.w) X.A (pyIter x) (fun it2 s4=>
   codeAny (model X.prog X.w) X.A (.compStart (.DictComp kx vx [⟨t1,i1,[],0⟩,⟨t2,i2,[],0⟩] scope pos) 1 it2 (.ref D) X.env) (fun r s5=>match r with | .ok _=>R s5 | .error _=>False) s4) eQ s3) eQ s:=by
 have rN:=rN s σ H _ I h
 have IM:=Ak
 have K0:=ck
 have JH:=rM
 rw[CZ] at rN
 refine aM rN fun v s1 h1=>aM h1 fun Ae s2 h2 =>?_
 obtain⟨it,fp,tn,J,H2,e,I2,T,bz,f2,V,⟨m0,w0⟩,turn⟩:=h2
 subst e
 have eg:∀{H':Hp},(∀b∈fp,H' b=none)->∀b∈fp,dB X pins H' b:=fun hn b hb=>⟨hn b hb,(f2 b hb).2⟩
 have loop:∀t1',codeAny (model X.prog X.w) X.A (.compLoop (.DictComp kx vx [⟨t1,i1,[],0⟩,⟨t2,i2,[],0⟩] scope pos) 1 (.ref it) (.ref D) X.env) (fun r s5=>match r with | .ok _=>R s5 | .error _=>False) { s2 with toks:=t1' }:=by
  intro t1'
  refine mi (fun n s'=>∃k H',Inv X pins σ H' s'/\tn k s'.heap/\(∀b∈fp,H' b=none)/\V k n H') ?_ m0 ⟨0,H2,I2.tok _,bz,fun b hb=>(f2 b hb).1,w0⟩
  intro n s3
  refine ae.go ?_
  rintro k H3 I3 cv fr3 w3
  rcases turn k n H3 w3 with ⟨stop,qn⟩|⟨go,step⟩
  ·refine aM (T.done X rfl rfl rfl cg k pins s3 σ H3 eQ I3 (eg fr3) cv stop) fun r s4 hz_ =>?_
   refine ae.el hz_ _ ?_
   clear hz_
   rintro hr I4
   subst hr
   exact q H3 s4 I4 qn
  ·refine aM (T.item X rfl rfl rfl cg k pins s3 σ H3 eQ I3 (eg fr3) cv go) fun r s4 hz_ =>?_
   refine ae.el hz_ _ ?_
   clear hz_
   rintro u hr h4
   subst hr
   refine aM h4 fun _ s5 hz_ =>?_
   refine ae.el hz_ _ ?_
   clear hz_
   rintro x H5 I5 r5 y5 cG fr5
   have v5:=I5.pinned (eg fr5) (T.obj _ _ cG)
   have hg:=Ak s5 σ H5 x u (fun σ' H' =>σ' = σ.set i (some x)/\H'=H5) v5 r5 ⟨rfl,rfl⟩
   rw[CZ] at hg
   refine aM hg fun _ s6 hz_ =>?_
   refine ae.el hz_ _ ?_
   clear hz_
   rintro σ6 H6 I6 e6 e6'
   subst e6 e6'
   have hk:=ck s6 _ _ _ I6 (step x _ y5)
   rw[CZ] at hk
   refine aM hk fun yv s8 hz_ =>?_
   refine ae.el hz_ _ ?_
   clear hz_
   rintro y H8 I8 r8 q8
   have hv:=rM s8 _ _ _ I8 q8
   rw[CZ] at hv
   refine aM hv fun zv s9 hz_ =>?_
   refine ae.el hz_ _ ?_
   clear hz_
   rintro z H9 I9 r9 q9
   refine ae.el (q9) _ ?_
   rintro kvs key eD ey hl m' nR w9
   subst ey
   refine j4 I9 eD hl r8 r9 fun s10 I10 =>?_
   refine⟨m',nR,k+1,_,Inv.weak I10.cQ (by rw[List.length_set]) fun j v hj =>?_,T.keep _ _ _ cG fun b hb o e=>(I10.pin (b,o) (Ji _ (Ji _ (bw hb e)))).1,fun b hb =>?_,w9⟩
   ·by_cases hji:j=i
    ·subst hji;rw[h0] at hj;cases hj
    ·rw[List.getElem?_set_ne (Ne.symm hji)];exact hj
   ·refine ae.el (T.obj _ _ cG b hb) _ ?_
    rintro o e d
    exact(I10.pin (b,o) (Ji _ (Ji _ (bw hb e)))).2.1
 exact mY (loop _) (T.self _ 0 _ _ _ bz (loop _))
end
theorem nq {X:Cx}{kx vx tg iter t2 i2:Expr}{rP:TI}{AY:Nat}{scope:Scope}{pos:Pos}{Nc Fc:List Str}{js:List Nat}{wi:TI}{g:TG}{tk tv:TE}{use:Option (Value->Sem Unit)}{QV:Value->Shared->Prop}
  (cg:X.calm=true) (c:cS X scope Nc Fc js) (hi:PI X tg iter wi)
  (hg:∀cl C s H fp,PG (d4 X Nc Fc scope cl C s H fp) tg g) (rN:∀cl C s H fp,PI (d4 X Nc Fc scope cl C s H fp) t2 i2 rP) (Ak:∀cl C s H fp,PG (d4 X Nc Fc scope cl C s H fp) t2 (fC AY)) (ck:∀cl C s H fp,PE (d4 X Nc Fc scope cl C s H fp) kx tk) (rM:∀cl C s H fp,PE (d4 X Nc Fc scope cl C s H fp) vx tv) (gk:Gk Nc.length g)
  {pins:List (Addr×Obj)} {s:Shared} {σ:St} {H:Hp} {fin:Addr->Hp->Prop} (I:Inv X pins σ H s)
  (h:wi σ H fun J H1=>∀D,H1 D=none->sh J Nc.length js g rP AY tk tv σ D (upd H1 D (.dK [])) (fin D))
  (behind:∀(C D:Addr) (m:Str->Option Value) (H2:Hp) (s2:Shared),Inv X pins σ H2 s2->s2.heap.Ns C m->dB X pins H2 C->fin D H2->compPost (model X.prog X.w) X.A X.xe use QV (.ref D) C (.ok .next) s2)
  (hs:∀x,foldedSetIterable iter X.env x=pure x) (v7:∀cl C s H fp x,foldedSetIterable i2 (d4 X Nc Fc scope cl C s H fp).env x=pure x) :
  wpAny (model X.prog X.w) X.A (comprehension (.DictComp kx vx [⟨tg,iter,[],0⟩,⟨t2,i2,[],0⟩] scope pos) scope X.env (firstIterPos [⟨tg,iter,[],0⟩,⟨t2,i2,[],0⟩] pos) newDict false (eval iter X.env) use) QV X.xe s:=by
 obtain⟨cl,hclos,cJ,fO⟩:=gq (scope:=scope) (env:=X.env) fun y hy hf=>I.ok.has y.1 (c.free y hy hf)
 refine wpAny_comprehension_free (use:=use) rfl hs hclos c.kind c.names ?_
 refine aM (hi s σ H _ I h) fun v s1 h1=>aM h1 fun Ae s2 h2 =>?_
 obtain⟨it,fp,tn,J,H2,e,I2,T,bz,f2,all⟩:=h2
 subst e
 refine wpAny_newObj_type (wpAny_newFunctionEnv c.nocell (by intro y hy;simp at hy) (fun h1 hns1 hsb1 =>?_) c.kind)
 dsimp only at hns1 hsb1 ⊢
 have vz:H2 s2.heap.objs.size=none:=I2.aN.fresh (Je _)
 have uO:=I2.laid (a:=s2.heap.objs.size) (o := .dK []) (h':=s2.heap.push { cls := .type "dict",data := .dict #[] }) (t':=s2.toks) (fun _ _ q=>Jc _ q) (Je _) (gL s2.heap I2.big)
 obtain⟨W,⟨m0,w0⟩,turn⟩:=all _ vz
 have AQ:∀b∈fp,∃o,s2.heap.get? b=some o:=fun b hb=>let ⟨o,e,_⟩:=T.obj 0 _ bz b hb; ⟨o,e⟩
 have jW:∀b∈fp,b<s2.heap.objs.size:=fun b hb=>let ⟨o,e⟩:=AQ b hb;Jm e
 generalize hG:s2.heap.push { cls := .type "dict",dict:=none,data := .dict #[] } = G at hns1 hsb1 uO ⊢
 have toG:∀b o,s2.heap.get? b=some o->G.get? b=some o:=fun b o e=>hG▸Jc _ e
 have hC:G.objs.size=s2.heap.objs.size+1:=by rw[<-hG,Wg]
 have old:∀b o,G.get? b=some o->h1.get? b=some o:=fun b o e=>
  hsb1.extBut b o (bU (Jm e) (Je _)) (Jc _ e)
 let D:Addr:=s2.heap.objs.size
 let s2':Shared:={ s2 with heap:=G,toks:=s2.toks }
 let H2':Hp:=upd H2 D (.dK [])
 have yT:∀b∈fp,dB X pins H2' b:=fun b hb=>by
  obtain⟨a1,a2⟩:=f2 b hb
  refine⟨?_,a2⟩
  show upd H2 D (.dK []) b=none
  rw[aj (J5 (jW b hb))];exact a1
 have fo:∀b∈fp,∃o,s2'.heap.get? b=some o:=fun b hb=>let ⟨o,e⟩:=AQ b hb; ⟨o,toG b o e⟩
 have Gd:∀b∈fp,b<G.objs.size:=fun b hb=>by have:=jW b hb;rw[hC];exact Wc this
 let Xc:Cx:=d4 X Nc Fc scope cl G.objs.size s2' H2' fp
 have eg:∀{H':Hp},(∀b∈fp,H' b=none)->∀b∈fp,dB Xc [] H' b:=fun{H'} hn b hb=>by
  refine⟨hn b hb,?_,?_,.inl hb,fun x a e =>?_,fun p hq =>?_⟩
  ·exact bU (Gd b hb) (Je _)
  ·exact(jt uO c cJ fO (Je _) yT fo).exfs b hb
  ·exact(f2 b hb).2.2.2.2.1 x a (cJ _ _ e)
  ·have q:p∈([]:List (Addr×Obj))++[]:=hq
   simp at q
 have loop:∀t1,codeAny (model X.prog X.w) X.A (.compLoop (.DictComp kx vx [⟨tg,iter,[],0⟩,⟨t2,i2,[],0⟩] scope pos) 0 (.ref it) (.ref s2.heap.objs.size) (compEnvC scope cl G.objs.size X.env))
   (compPost (model X.prog X.w) X.A X.xe use QV (.ref s2.heap.objs.size) G.objs.size) { s2 with heap:=h1,toks:=t1 }:=by
  intro t1
  refine mV (v7 cl G.objs.size s2' H2' fp) (fun n s'=>∃i H',Inv Xc [] (Jt Nc.length none++cq σ js) H' s'/\tn i s'.heap/\(∀b∈fp,H' b=none)/\W i n H') ?_ m0
   ⟨0,H2',mD uO c cJ fO (Je _) yT fo old hns1,T.keep _ _ _ bz (fun b hb o e=>old b o (toG b o e)),fun b hb=>(yT b hb).1,w0⟩
  intro n s3
  refine ae.go ?_
  rintro i H3 I3 cv fr3 w3
  rcases turn i n H3 w3 with ⟨stop,qn⟩|⟨go,step⟩
  ·refine aM (T.done Xc rfl rfl rfl cg i _ s3 _ H3 eQ I3 (eg fr3) cv stop) fun r s4 hz_ =>?_
   refine ae.el hz_ _ ?_
   clear hz_
   rintro hr I4
   subst hr
   show compPost _ _ _ _ _ _ _ _ _
   refine ae.el (I4.loc) _ ?_
   rintro mC hmC _
   have CT:H3 G.objs.size=none:=I4.free
   have u:Un (kP X.stack) fp H2' H3 G s4.heap:=I4.base
   have nT:∀b∈fp,(b∈X.ex∨X.s₀.heap.objs.size<=b)/\b≠X.env.locals/\(∀x c,X.env.cells.lookup x=some c->c≠b)/\∀p∈X.pn++pins,p.1≠b:=fun b hb=>
    ⟨(f2 b hb).2.2.2.1,(f2 b hb).2.1,(f2 b hb).2.2.2.2.1,(f2 b hb).2.2.2.2.2⟩
   have CN:s4.os=s2'.os:=I4.os
   have J4:Inv X pins σ H3 s4:=uO.pJ (H':=H3) CN u I4.aN I4.bare nT
   exact behind G.objs.size D mC H3 s4 J4 hmC (uO.iE (Je _) CT) qn
  ·refine aM (T.item Xc rfl rfl rfl cg i _ s3 _ H3 eQ I3 (eg fr3) cv go) fun r s4 hz_ =>?_
   refine ae.el hz_ _ ?_
   clear hz_
   rintro u hr h4
   subst hr
   show wpAny _ _ (letOwnedTupleGo tg (.ref it) u) _ _ _
   refine aM h4 fun _ s5 hz_ =>?_
   refine ae.el hz_ _ ?_
   clear hz_
   rintro x H5 I5 r5 y5 cG fr5
   have v5:=I5.pinned (eg fr5) (T.obj _ _ cG)
   refine aM (hg cl G.objs.size s2' H2' fp s5 _ H5 x u _ v5 r5 (gk _ _ _ _ (step x H5 y5))) fun _ s6 ⟨σ6,H6,I6,⟨q60,q6⟩,kσ,kl⟩=>?_
   have later:∀{σ':St} {H':Hp} {s':Shared},Inv Xc ([]++dq fp s5.heap) σ' H' s'->tn (i+1) s'.heap/\∀b∈fp,H' b=none:=fun{σ' H' s'} Iz=>by
    refine⟨T.keep _ _ _ cG fun b hb o e=>(Iz.pin (b,o) (Ji _ (Ji _ (bw hb e)))).1,fun b hb =>?_⟩
    refine ae.el (T.obj _ _ cG b hb) _ ?_
    rintro o e d
    exact(Iz.pin (b,o) (Ji _ (Ji _ (bw hb e)))).2.1
   have back:∀{pl:List (Addr×Obj)} {H':Hp} {s':Shared},Inv Xc pl σ6 H' s'->Inv Xc pl (Jt Nc.length none++cq σ js) H' s':=fun{pl H' s'} Iz=>by
    refine Iz.weak (by rw[<-kl]) fun j v hj =>?_
    by_cases hn:j<Nc.length
    ·rw[Uh (by simpa using hn),Yn] at hj
     split at hj<;>cases hj
    ·rw[kσ j (by omega)];exact hj
   refine tJ (X:=Xc) rfl cg (rN cl G.objs.size s2' H2' fp) (Ak cl G.objs.size s2' H2' fp) (ck cl G.objs.size s2' H2' fp) (rM cl G.objs.size s2' H2' fp) I6 q60 q6 fun H7 s7 I7 q7 =>?_
   refine ae.el (q7) _ ?_
   rintro m' nR w7
   obtain⟨l1,l2⟩:=later I7
   exact⟨m',nR,i+1,H7,back I7.cQ,l1,l2,w7⟩
 exact codeAny_compStart_dict (loop _) (T.self _ 0 _ _ _ (T.keep _ _ _ bz fun b hb o e=>old b o (toG b o e)) (loop _))
theorem rh {X:Cx}{kx vx tg iter t2 i2:Expr}{rP:TI}{AY:Nat}{scope:Scope}{pos:Pos}{Nc Fc:List Str}{js:List Nat}{wi:TI}{g:TG}{tk tv:TE}
  (cg:X.calm=true) (c:cS X scope Nc Fc js) (hi:PI X tg iter wi) (gk:Gk Nc.length g)
  (hg:∀cl C s H fp,PG (d4 X Nc Fc scope cl C s H fp) tg g) (rN:∀cl C s H fp,PI (d4 X Nc Fc scope cl C s H fp) t2 i2 rP) (Ak:∀cl C s H fp,PG (d4 X Nc Fc scope cl C s H fp) t2 (fC AY)) (ck:∀cl C s H fp,PE (d4 X Nc Fc scope cl C s H fp) kx tk) (rM:∀cl C s H fp,PE (d4 X Nc Fc scope cl C s H fp) vx tv)
  (hs:∀x,foldedSetIterable iter X.env x=pure x:=by intro _;rfl) (v7:∀cl C s H fp x,foldedSetIterable i2 (d4 X Nc Fc scope cl C s H fp).env x=pure x:=by intros;rfl) :
  PE X (.DictComp kx vx [⟨tg,iter,[],0⟩,⟨t2,i2,[],0⟩] scope pos) (xf wi Nc.length js g rP AY tk tv):=by
 intro pins s σ H Q I h
 rw[arm_eval_DictComp]
 refine nq (use:=none) (fin:=fun D H2=>Q (.ref D) H2) cg c hi hg rN Ak ck rM gk I h (fun C D m H2 s2 I2 hm hC q =>?_) hs v7
 refine⟨m,hm,fun h' hs' =>?_⟩
 exact⟨.ref D,_,I2.turned (it:=C) (t':=s2.toks) (fun b o hb e=>hs'.extBut b o hb e) hC.1 (hC.2.1) hC.2.2.2.1 hC.2.2.2.2.1 hC.2.2.2.2.2,rfl,q⟩
structure xq (prog:Program)(w:World)(A:Around)(it S:Addr)(fp:Addr->Prop)(n:Nat)(P:Nat->Value->Heap->Prop)(R:Value->Value->Prop)(St:Nat->Heap->Prop):Prop where
 sfp:¬fp S
 item:∀i (s:Shared) (Q:Option Value->Shared->Prop) (E:Value->Shared->Prop),i<n->St i s.heap->S<s.heap.objs.size ->
  (∀v h' tk,Keeps s.heap h' fp->St (i+1) h'->P i v h'->(∀j u,P j u s.heap->R u v)->Q (some v) { s with heap:=h',toks:=tk })->wpAny (model prog w) A (pyNext (.ref it)) Q E s
 stop:∀(s:Shared) (Q:Option Value->Shared->Prop) (E:Value->Shared->Prop),St n s.heap->S<s.heap.objs.size->(∀h' tk,Keeps s.heap h' fp->Q none { s with heap:=h',toks:=tk })->wpAny (model prog w) A (pyNext (.ref it)) Q E s
 keepS:∀i h h',St i h->Keeps h h' (· = S)->St i h'
 keepP:∀j v h h',P j v h->Keeps h h' (fun b=>fp b∨b=S)->P j v h'
section
variable {prog:Program}{w:World}{A:Around}{it S:Addr}{fp:Addr->Prop}{n:Nat}{P:Nat->Value->Heap->Prop}{R:Value->Value->Prop}{St:Nat->Heap->Prop}
theorem jA (Fd:xq prog w A.in1 it S fp n P R St)(hn:n<=sizeLine){s:Shared}{Z:Result->Shared->Prop}{res:Value}{g:Heap}(fin:iP g S fp n P R s (Z (.ok (.ret res)))):
  ∀(k i:Nat) (h:Heap) (tk:Nat) (acc:Array Value) (c:Nat),i+k=n->St i h->mR h S i P R acc c->Keeps g h (fun b=>fp b∨b=S) ->
   codeAny (model prog w) A (.builtin "list.extend.loop" ⟨[.ref S,.ref it,res],[]⟩) Z { s with heap:=h,toks:=tk }
 | 0,i,h,tk,acc,c,hk,gc,G,kp=>by
  have e:i=n:=by omega
  subst e
  refine codeAny_builtin PySem.F.entry_extend_loop ?_
  rw[Around.under_plainId PySem.F.plain_extend_loop _]
  refine wpAny_bind (Fd.stop { s with heap:=h,toks:=tk } _ _ gc (Jm G.ob) fun h' tk' k'=>wpAny_pure ?_)
  exact fin h' tk' acc c (fun b o nb q=>k' b o (fun z=>nb (.inl z)) (kp b o nb q)) ⟨k' _ _ Fd.sfp G.ob,G.sz,G.pw,fun j v e=>Fd.keepP _ _ _ _ (G.all j v e) fun b o nb q=>k' b o (fun z=>nb (.inl z)) q⟩
 | k+1,i,h,tk,acc,c,hk,gc,G,kp=>by
  refine codeAny_builtin PySem.F.entry_extend_loop ?_
  rw[Around.under_plainId PySem.F.plain_extend_loop _]
  refine wpAny_bind (Fd.item i { s with heap:=h,toks:=tk } _ _ (by omega) gc (Jm G.ob) fun v h' tk' k' av pv rv =>?_)
  have yV:=k' _ _ Fd.sfp G.ob
  have other:Keeps h' (h'.update S (Obj.mapSeq (·.push v))) (· = S):=fun b o nb q=>(Uj _ _ (Ne.symm nb)).trans q
  have k2:Keeps h (h'.update S (Obj.mapSeq (·.push v))) (fun b=>fp b∨b=S):=fun b o nb q=>other b o (fun z=>nb (.inr z)) (k' b o (fun z=>nb (.inl z)) q)
  have sz:=G.sz
  refine wpAny_bind (wpAny_updateSeq yV rfl (wpAny_pure ⟨plainId_quiet PySem.F.plain_extend_loop _,?_⟩) (by rw[sz];omega) (by show(acc.push v).size<=sizeLine+1;rw[Wa,sz];omega))
  refine jA Fd hn fin k (i+1) _ tk' (acc.push v) _ (by omega) (Fd.keepS _ _ _ av other) ⟨Us _ yV rfl,by rw[Wa,sz],?_,fun j u e =>?_⟩ (fun b o nb q=>k2 b o nb (kp b o nb q))
  ·rw[U9]
   refine J9.mpr ⟨G.pw,List.pairwise_singleton _ _,fun a ha b hb =>?_⟩
   obtain⟨j,hj⟩:=U2.mp ha
   rw[Jb.mp hb]
   exact rv j a (G.all j a (by simpa using hj))
  ·by_cases hj:j<i
   ·rw[Array.getElem?_push_lt (by omega)] at e
    exact Fd.keepP _ _ _ _ (G.all j u (by rw[J8 (by omega)];exact e)) k2
   ·have pV:j=i:=by
     have:=(Array.getElem?_eq_some_iff.mp e).1
     rw[Wa] at this
     omega
    subst pV
    have e':(acc.push v)[acc.size]? = some u:=by rw[sz];exact e
    rw[Array.getElem?_push_size] at e'
    cases e'
    exact Fd.keepP _ _ _ _ pv fun b o nb q=>other b o (fun z=>nb (.inr z)) q
end
theorem cP:Slot "set_iterator" "__next__" "set_iterator.__next__":=by
 refine .of (owner := "set_iterator") (n := "__next__") ?_ ?_ ?_ ?_ ?_ ?_
 ·rw[typeLookup_type,builtinLookup_eq_fast];kernel_rfl
 ·decide +kernel
 ·decide +kernel
 ·decide +kernel
 ·first
   | exact .inl (by decide +kernel)
   | exact .inr (by decide +kernel)
 ·rw[isSubtype_type];kernel_rfl
theorem gP:entryFor table "set_iterator.__next__" = some Builtin.«set_iterator.__next__»:=entryFor_of_fast (by kernel_rfl)
theorem iD (a:Value):argsOk "set_iterator.__next__" ⟨[a],[]⟩:=by
 unfold argsOk
 rw[signature?_of (id := "set_iterator.__next__") (n := "__txen__".toList) (o := "rotareti_tes".toList) (rows:=Manifest.sig_set_iterator) (by kernel_rfl) (by kernel_rfl)]
 kernel_rfl
theorem ju:entryFor table "set.__iter__" = some Builtin.«frozenset.__iter__»:=entryFor_alias (id' := "frozenset.__iter__") (by kernel_rfl) rfl (by decide +kernel) (by kernel_rfl)
theorem gi {α:Type}:∀{l:List α} {i:Nat} (h:i<l.length),U0 (l[i]::l.eraseIdx i) l
 | x::l,0,h=>U0.refl _
 | x::l,i+1,h=>by
  rw[List.eraseIdx_cons_succ,List.getElem_cons_succ]
  exact(U0.swap _ _ _).trans ((gi (Nat.lt_of_succ_lt_succ h)).cons x)
theorem pj {α:Type}(next:Nat->Nat):∀(n k:Nat) (left:List α) (out:Array α),left.length=n->U0 (pickOrder.go next n k left out).toList (out.toList++left)
 | 0,k,left,out,h=>by
  unfold pickOrder.go
  rw[Ux h,Ut]
 | n+1,k,left,out,h=>by
  unfold pickOrder.go
  have hp:next k%left.length<left.length:=Nat.mod_lt _ (by omega)
  rw[Jf hp]
  dsimp only
  refine(pj next n (k+1) _ _ (by rw[List.length_eraseIdx,if_pos hp];omega)).trans ?_
  rw[U9,Uo]
  refine U0.append_left _ ?_
  rw[List.singleton_append]
  exact gi hp
theorem qx {α:Type}(next:Nat->Nat)(xs:Array α):U0 (pickOrder next xs).toList xs.toList:=pj next _ 0 _ #[] rfl
theorem oT {M:Model}{A:Around}{E:Value->Shared->Prop}{α:Type}:∀(n:Nat) (xs:List α) (s:Shared) (Q:List α->Shared->Prop),xs.length=n ->
  (∀ys d,U0 ys xs->Q ys { s with drawn:=d })->wpAny M A (drawOrder n xs) Q E s:=by
 intro n
 induction n with
 | zero=>
  intro xs s Q h q
  unfold drawOrder
  exact wpAny_pure (q [] s.drawn (by rw[Ux h]))
 | succ n ih=>
  intro xs s Q h q
  cases xs with
  | nil=>cases h
  | cons x xs=>
   unfold drawOrder
   refine wpAny_bind (fun Γ p hΓ =>?_)
   unfold choose
   rw[Sem.wp_choose]
   refine⟨by simp,?_⟩
   have hp:M.w.draws .order (s.drawn.get .order)%(x::xs).length<(x::xs).length:=Nat.mod_lt _ (by simp)
   generalize M.w.draws .order (s.drawn.get .order)%(x::xs).length=i at hp ⊢
   rw[Sem.wp_pure]
   dsimp only
   rw[Jf hp]
   refine wpAny_bind (ih _ _ _ (by rw[List.length_eraseIdx,if_pos hp];omega) fun ys d hy=>wpAny_pure (q _ d ?_))
   exact(hy.cons _).trans (gi hp)
noncomputable def yd (w:World):Bool:=w.params.followText "set-order"
inductive sI (w:World)(a:Addr)(es:Array (Int×Value))(ep:Nat)(t:SetTable)(lo i:Nat)(h:Heap)(it:Addr):Value->List Value->Prop
 | text (b:yd w=true):sI w a es ep t lo i h it (.int 0 0) ((pickOrder (w.params.setOrder a ep) es).toList.map (·.2))
 | places (b:yd w=false) (d:(!t.plain&&decide (es.size>1))=false) (l:t.led=true) (z:Nat) (c:Cut t.place z i):sI w a es ep t lo i h it (.int (z:Int) 0) (es.toList.map (·.2))
 | drawn (ys:List Nat) (p:U0 ys (Wh es.size)) (tp:Addr) (low:lo<=tp) (ne:tp≠it) (o:Obj) (n:Nat) (e:h.get? tp=some o) (d:o.data = .seq (ys.map fun(k:Nat)=>rawInt k).toArray n):sI w a es ep t lo i h it (.ref tp) (ys.map fun k=>(es.toList.map (·.2)).getD k .none)
structure xo (w:World)(a:Addr)(es:Array (Int×Value))(ep:Nat)(t:SetTable)(lo:Nat)(vals:List Value)(it:Addr)(i:Nat)(h:Heap):Prop where
 set:∃o,h.get? a=some o/\o.data = .set es ep t
 fit:t.fits es.size=true
 good:cn t
 ne:a≠it
 low:lo<=it
 ex:∃first,sI w a es ep t lo i h it first vals/\h.get? it=some { cls := .type "set_iterator",data := .fields #[first,.int i 0,.ref a,.int es.size 0,.int ep 0] }
theorem xo.keep {w:World}{a:Addr}{es:Array (Int×Value)}{ep:Nat}{t:SetTable}{lo:Nat}{vals:List Value}{it:Addr}{i:Nat}{h h':Heap}(x:xo w a es ep t lo vals it i h)(k:∀b o,h.get? b=some o->(b=a∨lo<=b)->h'.get? b=some o):xo w a es ep t lo vals it i h':=by
 obtain⟨⟨o,e1,e2⟩,ft,g,ne,low,first,so,e3⟩:=x
 refine⟨⟨o,k _ _ e1 (.inl rfl),e2⟩,ft,g,ne,low,first,?_,k _ _ e3 (.inr low)⟩
 cases so with
 | text b=>exact .text b
 | places b d l z c=>exact .places b d l z c
 | drawn ys p tp tl ne o n e d=>exact .drawn ys p tp tl ne o n (k _ _ e (.inr tl)) d
section
variable {prog:Program}{w:World}{A:Around}{E:Value->Shared->Prop}{s:Shared}{a:Addr}{es:Array (Int×Value)}{ep:Nat}{t:SetTable}{o:Obj}{lo:Nat}
theorem sP {Q:Value->Shared->Prop}(ho:s.heap.get? a=some o)(hx:o.ExactSet)(hd:o.data = .set es ep t)(hf:t.fits es.size=true)(g:cn t)(l:yd w=false->t.led=true)(hz:es.size<=sizeLine)
  (fin:∀it h' d vals,vals.length=es.size->U0 vals (es.toList.map (·.2))->s.heap.objs.size<=it->(∀b o,s.heap.get? b=some o->h'.get? b=some o)->xo w a es ep t s.heap.objs.size vals it 0 h'->Q (.ref it) { s with heap:=h',drawn:=d }) :
  wpAny (model prog w) A (pyIter (.ref a)) Q E s:=by
 have hT:s.TypeIs (.ref a) "set":=⟨o,ho,hx.1⟩
 have low:a<s.heap.objs.size:=Jm ho
 refine wpAny_pyIter_slot hT F.slot_set_iter (wpAny_call_entry F.slot_set_iter hT ju ?_ (F.args_set_iter_1 _))
 unfold Builtin.«frozenset.__iter__» Builtin.Frozenset.slot0 slotArgs Builtin.Frozenset.addrOf Builtin.Frozenset.sizeOf setEntries setDrawn setEpoch setsByText
 simp -iota only [List.isEmpty_nil,Bool.not_true,J6, ↓reduceIte,bind_assoc,Ys,bne_self_eq_false]
 dsimp only
 try simp -iota only [bind_assoc,J6, ↓reduceIte]
 refine wpAny_bind (wpAny_pure (wpAny_bind (wpAny_pure (wpAny_bind (wpAny_setState_of ho hd hf (wpAny_bind (wpAny_pure (wpAny_bind (wpAny_pure (wpAny_bind (wpAny_setState_of ho hd hf ?_)))))))))))
 refine wpAny_bind (wpAny_askSetting (wpAny_bind (wpAny_pure (wpAny_bind (wpAny_pure ?_)))))
 have last:∀(s1:Shared) (d:Drawn) (first:Value) (vals:List Value),s1.drawn=d->s1.gens=s.gens->s1.toks=s.toks->s1.os=s.os->(∀b o,s.heap.get? b=some o->s1.heap.get? b=some o)->s.heap.objs.size<=s1.heap.objs.size->vals.length=es.size->U0 vals (es.toList.map (·.2)) ->
   (∀h' it,s1.heap.objs.size<=it->(∀b o,s1.heap.get? b=some o->h'.get? b=some o)->sI w a es ep t s.heap.objs.size 0 h' it first vals) ->
   wpAny (model prog w) A.in1 (do
    let x <-setState a
    let y <-pure x.2.1
    let z <-newFields "set_iterator" [first,rawInt 0,.ref a,rawInt es.size,rawInt y]
    ret z) (fun fin s'=>∃v,fin = .done (.ret v)/\∃T' r,s'.TypeIs v T'/\typeLookup (.type T') (Str.ofString "__next__")=pure (some r)/\Q v s') E s1:=by
  intro s1 d first vals e1 e2 e3 e4 k1 z1 hl hp so
  refine wpAny_bind (wpAny_setState_of (k1 _ _ ho) hd hf (wpAny_bind (wpAny_pure ?_)))
  unfold newFields
  refine wpAny_bind (wpAny_newObj_type (wpAny_pure ?_))
  refine⟨_,rfl, "set_iterator",_,⟨_,Js _ rfl,rfl⟩,cP.lookup,?_⟩
  have k2:∀b o,s1.heap.get? b=some o->(s1.heap.push { cls := .type "set_iterator",data := .fields [first,rawInt 0,.ref a,rawInt es.size,rawInt ep].toArray }).get? b=some o:=fun b o x=>Jc _ x
  have q:=fin s1.heap.objs.size (s1.heap.push { cls := .type "set_iterator",data := .fields [first,rawInt 0,.ref a,rawInt es.size,rawInt ep].toArray }) d vals hl hp z1 (fun b o x=>k2 b o (k1 b o x)) ⟨⟨o,k2 _ _ (k1 _ _ ho),hd⟩,hf,g,J5 (Jy low z1),z1,first,so _ _ (Je _) k2,Js _ rfl⟩
  subst e1
  rw[<-e2,<-e3,<-e4] at q
  exact q
 have lv:(es.toList.map (·.2)).length=es.size:=by rw[Ja,Jr]
 cases hb:yd w with
 | true=>
  have CV:w.params.followText "set-order" = true:=hb
  refine wpAny_ite ?_
  rw[if_neg (by show ¬((!w.params.followText "set-order" && _)=true);rw[CV];exact Jk)]
  refine wpAny_bind (wpAny_pure ?_)
  have pm:=qx (w.params.setOrder a ep) es
  exact last s s.drawn _ _ rfl rfl rfl rfl (fun _ _ x=>x) (Je _) (by rw[Ja,pm.length_eq,Jr]) (pm.map _) fun h' it _ _ =>.text hb
 | false=>
  have CV:w.params.followText "set-order" = false:=hb
  refine wpAny_ite ?_
  cases hc:(!t.plain&&decide (es.size>1)) with
  | false=>
   rw[if_neg (by show ¬((!w.params.followText "set-order" && (!t.plain&&decide (es.size>1)))=true);rw[CV,hc];exact Jk)]
   refine wpAny_bind (wpAny_pure ?_)
   exact last s s.drawn _ _ rfl rfl rfl rfl (fun _ _ x=>x) (Je _) lv (U0.refl _) fun h' it _ _ =>.places hb hc (l hb) 0 ⟨Um _,fun i _ z=>absurd z (Nat.not_lt_zero _),fun i _ _=>Um _⟩
  | true=>
   rw[if_pos (by show(!w.params.followText "set-order" && (!t.plain&&decide (es.size>1)))=true;rw[CV,hc];rfl)]
   refine wpAny_bind (oT _ _ _ _ Y1 fun ys d hy =>?_)
   have Dh:ys.length=es.size:=by rw[hy.length_eq,Y1]
   refine wpAny_bind (wpAny_newTuple ?_ (by rw[Ja,Dh];exact hz))
   have rm:U0 (ys.map fun k=>(es.toList.map (·.2)).getD k .none) (es.toList.map (·.2)):=by
    refine(hy.map _).trans ?_
    have:(Wh es.size).map (fun k=>(es.toList.map (·.2)).getD k .none)=es.toList.map (·.2):=by
     refine List.ext_getElem (by rw[Ja,Y1,lv]) fun i h1 h2 =>?_
     rw[List.getElem_map,List.getElem_range,Yq,Jf h2];rfl
    rw[this]
   refine last { s with heap:=s.heap.push { cls := .type "tuple",data := .seq (ys.map fun(i:Nat)=>rawInt i).toArray },drawn:=d } d _ _ rfl rfl rfl rfl (fun b o x=>Jc _ x) (by show _<=(s.heap.push _).objs.size;rw[Wg];exact Yt _) (by rw[Ja,Dh]) rm fun h' it hit k' =>?_
   refine .drawn ys hy _ (Je _) ?_ _ 0 (k' _ _ (Js _ rfl)) rfl
   have hit:(s.heap.push { cls := .type "tuple",data := .seq (ys.map fun(i:Nat)=>rawInt i).toArray }).objs.size<=it:=hit
   rw[Wg] at hit
   exact J5 hit
theorem j5 {Q:Array (Int×Value)->Shared->Prop}(b:yd w=true)(ho:s.heap.get? a=some o)(hd:o.data = .set es ep t)(hf:t.fits es.size=true)(q:Q (pickOrder (w.params.setOrder a ep) es) s):wpAny (model prog w) A (setWalk a) Q E s:=by
 unfold setWalk setsByText
 have b':w.params.followText "set-order" = true:=b
 refine wpAny_bind (wpAny_setState_of ho hd hf (wpAny_bind (wpAny_bind (wpAny_askSetting (wpAny_pure ?_)))))
 refine wpAny_ite ?_
 rw[if_pos (show({ program:=(model prog w).prog,params:=(model prog w).w.params }:Setting).params.followText "set-order" = true from b')]
 exact wpAny_bind (wpAny_askSetting (wpAny_pure q))
theorem tR {vals:List Value}{it:Addr}{i:Nat}{v:Value}{Q:Option Value->Shared->Prop}(st:xo w a es ep t lo vals it i s.heap)(hv:vals[i]? = some v)
  (fin:∀h',(∀b o,b≠it->s.heap.get? b=some o->h'.get? b=some o)->h'.objs.size=s.heap.objs.size->xo w a es ep t lo vals it (i+1) h'->Q (some v) { s with heap:=h' }) :
  wpAny (model prog w) A (pyNext (.ref it)) Q E s:=by
 obtain⟨⟨o,ho,hd⟩,hf,g,ne,low,first,so,e⟩:=st
 have hT:s.TypeIs (.ref it) "set_iterator":=⟨_,e,rfl⟩
 refine wpAny_bind (wpAny_attempt (wpAny_callSpecial?_slot (name:=Str.ofString "__next__") hT cP (wpAny_call_entry cP hT gP ?_ (iD _))))
 unfold Builtin.«set_iterator.__next__» slotArgs setEntries setNext setsByText
 simp -iota only [List.isEmpty_nil,Bool.not_true,J6, ↓reduceIte,bind_assoc,Ys,bne_self_eq_false]
 dsimp only
 try simp -iota only [bind_assoc,J6, ↓reduceIte]
 refine wpAny_bind (wpAny_pure (wpAny_bind (wpAny_fieldsOf e rfl ?_)))
 dsimp only
 refine wpAny_bind (wpAny_setState_of ho hd hf (wpAny_bind (wpAny_pure ?_)))
 refine wpAny_ite ?_
 rw[if_neg (by simp)]
 cases so with
 | text b=>
  have b':w.params.followText "set-order" = true:=b
  refine wpAny_bind (wpAny_setState_of ho hd hf (wpAny_bind (wpAny_askSetting (wpAny_bind (wpAny_pure ?_)))))
  refine wpAny_bind (wpAny_ite ?_)
  rw[if_pos (show({ program:=(model prog w).prog,params:=(model prog w).w.params }:Setting).params.followText "set-order" = true from b')]
  refine wpAny_ite ?_
  rw[if_neg (by simp)]
  refine wpAny_bind (j5 b ho hd hf (wpAny_pure ?_))
  have hx:((pickOrder (w.params.setOrder a ep) es)[(i:Int).toNat]?).map (fun e=>(e.2,(0:Int).toNat))=some (v,0):=by
   rw[Uz,<-Ub]
   rw[Jn] at hv
   cases q:(pickOrder (w.params.setOrder a ep) es).toList[i]? with
   | none=>rw[q] at hv;cases hv
   | some y=>rw[q] at hv;cases hv;rfl
  rw[hx]
  refine wpAny_bind (wpAny_setField_rec e (by simp) fun h1 e1 s1=>wpAny_bind (wpAny_setField_rec (s:={ s with heap:=h1 }) e1 (by simp) fun h2 e2 s2 =>?_))
  refine wpAny_pure ⟨_,rfl,wpAny_pure (fin h2 (fun b o nb x=>s2.extBut b o nb (s1.extBut b o nb x)) (s2.1.trans s1.1) ⟨⟨o,s2.extBut _ _ ne (s1.extBut _ _ ne ho),hd⟩,hf,g,ne,low,_,.text b,?_⟩)⟩
  simpa [rawInt] using e2
 | places b d l z c=>
  have b':w.params.followText "set-order" = false:=b
  have ID:t.place.size=es.size:=by
   have:=hf
   simp only[SetTable.fits,Ye,beq_iff_eq] at this
   exact this.1
  have hi:i<es.size:=by
   have:=(Ju.mp hv).1
   rwa[Ja,Jr] at this
  refine wpAny_bind (wpAny_setState_of ho hd hf (wpAny_bind (wpAny_askSetting (wpAny_bind (wpAny_pure ?_)))))
  refine wpAny_bind (wpAny_ite ?_)
  rw[if_neg (by show ¬(w.params.followText "set-order" = true);rw[b'];exact Jk)]
  refine wpAny_ite ?_
  rw[if_neg (by show ¬((!t.plain&&decide (es.size>1))=true);rw[d];exact Jk)]
  refine wpAny_bind ?_
  show wpAny _ _ (if (!t.led && !es.isEmpty)=true then unsupported "set:maker-not-led" else pure ()) _ _ _
  rw[l]
  refine wpAny_pure ?_
  have CS:SetTable.below t.place ((z:Int)).toNat=i:=by
   rw[Uz]
   have c2:=dX g.2 z
   have h1:¬SetTable.below t.place z<i:=fun q=>by
    have hs:SetTable.below t.place z<t.place.size:=by omega
    have:=c2.hi _ hs (Je _)
    have:=c.lo _ hs q
    omega
   have h2:¬i<SetTable.below t.place z:=fun q=>by
    have hs:i<t.place.size:=by omega
    have:=c2.lo _ hs q
    have:=c.hi _ hs (Je _)
    omega
   omega
  refine wpAny_pure ?_
  dsimp only
  rw[CS,J8 hi,J8 (show i<t.place.size by omega)]
  have G2:es[i].2=v:=by
   rw[Jn,Ub,J8 hi] at hv
   injection hv
  dsimp only
  rw[G2]
  refine wpAny_bind (wpAny_setField_rec e (by simp) fun h1 e1 s1=>wpAny_bind (wpAny_setField_rec (s:={ s with heap:=h1 }) e1 (by simp) fun h2 e2 s2 =>?_))
  refine wpAny_pure ⟨_,rfl,wpAny_pure (fin h2 (fun b o nb x=>s2.extBut b o nb (s1.extBut b o nb x)) (s2.1.trans s1.1) ⟨⟨o,s2.extBut _ _ ne (s1.extBut _ _ ne ho),hd⟩,hf,g,ne,low,_,.places b d l (t.place[i]+1) ?_,?_⟩)⟩
  ·have c3:=dX g.2 (t.place[i]+1)
   rw[Cut.next g.2 (by omega) c3] at c3
   exact c3
  ·simpa [rawInt] using e2
 | drawn ys p tp tl nt ot n et dt=>
  dsimp only
  unfold seqItems?
  refine wpAny_bind (wpAny_bind (wpAny_load et ?_))
  rw[dt]
  refine wpAny_pure ?_
  dsimp only
  rw[Jn] at hv
  cases hy:ys[i]? with
  | none=>rw[hy] at hv;cases hv
  | some y=>
   rw[hy] at hv
   injection hv with hv
   have Ia:y<es.size:=List.mem_range.mp (p.mem_iff.mp (Yo hy))
   have kF:(ys.map fun(k:Nat)=>rawInt k).toArray[(i:Int).toNat]? = some (rawInt y):=by
    rw[Uz,List.getElem?_toArray,Jn,hy];rfl
   rw[kF]
   have IK:es[y].2=v:=by
    rw[<-hv]
    dsimp only
    rw[Yq,Jn,Ub,J8 Ia];rfl
   show wpAny _ _ (setNextDrawn a ((y:Int)).toNat ((ep:Int)).toNat >>= _) _ _ _
   rw[Uz,Uz]
   unfold setNextDrawn
   refine wpAny_bind (wpAny_bind (wpAny_setState_of ho hd hf ?_))
   dsimp only
   refine wpAny_ite ?_
   rw[if_neg (by simp),J8 Ia]
   refine wpAny_pure ?_
   show wpAny _ _ (setField (.ref it) 1 (rawInt ((i:Int)+1)) >>= fun _=>ret es[y].2) _ _ _
   rw[IK]
   refine wpAny_bind (wpAny_setField_rec e (by simp) fun h1 e1 s1 =>?_)
   refine wpAny_pure ⟨_,rfl,wpAny_pure (fin h1 (fun b o nb x=>s1.extBut b o nb x) s1.1 ⟨⟨o,s1.extBut _ _ ne ho,hd⟩,hf,g,ne,low,_,.drawn ys p tp tl nt ot n (s1.extBut _ _ nt et) dt,?_⟩)⟩
   simpa [rawInt] using e1
theorem uf {vals:List Value}{it:Addr}{Q:Option Value->Shared->Prop}(hh:A.handled=none)(st:xo w a es ep t lo vals it es.size s.heap)(hl:vals.length=es.size)
  (fin:∀h',(∀b o,b≠it->s.heap.get? b=some o->h'.get? b=some o)->Q none { s with heap:=h' }) :
  wpAny (model prog w) A (pyNext (.ref it)) Q E s:=by
 obtain⟨⟨o,ho,hd⟩,hf,g,ne,low,first,so,e⟩:=st
 have hT:s.TypeIs (.ref it) "set_iterator":=⟨_,e,rfl⟩
 refine wpAny_bind (wpAny_attempt (wpAny_callSpecial?_slot (name:=Str.ofString "__next__") hT cP (wpAny_call_entry cP hT gP ?_ (iD _))))
 unfold Builtin.«set_iterator.__next__» slotArgs setEntries setNext setsByText
 simp -iota only [List.isEmpty_nil,Bool.not_true,J6, ↓reduceIte,bind_assoc,Ys,bne_self_eq_false]
 dsimp only
 try simp -iota only [bind_assoc,J6, ↓reduceIte]
 refine wpAny_bind (wpAny_pure (wpAny_bind (wpAny_fieldsOf e rfl ?_)))
 dsimp only
 refine wpAny_bind (wpAny_setState_of ho hd hf (wpAny_bind (wpAny_pure ?_)))
 refine wpAny_ite ?_
 rw[if_neg (by simp)]
 cases so with
 | text b=>
  have b':w.params.followText "set-order" = true:=b
  refine wpAny_bind (wpAny_setState_of ho hd hf (wpAny_bind (wpAny_askSetting (wpAny_bind (wpAny_pure ?_)))))
  refine wpAny_bind (wpAny_ite ?_)
  rw[if_pos (show({ program:=(model prog w).prog,params:=(model prog w).w.params }:Setting).params.followText "set-order" = true from b')]
  refine wpAny_ite ?_
  rw[if_neg (by simp)]
  refine wpAny_bind (j5 b ho hd hf (wpAny_pure ?_))
  have hx:((pickOrder (w.params.setOrder a ep) es)[(es.size:Int).toNat]?).map (fun e=>(e.2,(0:Int).toNat))=none:=by
   have:(pickOrder (w.params.setOrder a ep) es).size=es.size:=by rw[<-hl,Ja,Jr]
   rw[Uz,Yf (by omega)];rfl
  rw[hx]
  refine wpAny_bind (wpAny_setField_rec e (by simp) fun h1 e1 s1 =>?_)
  wp_walk
  refine wpAny_raiseNew_none hh (wpAny_bind (wpAny_isInstance (T := "StopIteration") (b:=true) ⟨_,Js _ rfl,rfl⟩ isSubtype_stop (wpAny_pure (fin _ fun b o nb x =>?_))))
  exact Jc _ (Jc _ (s1.extBut b o nb x))
 | places b d l z c=>
  have b':w.params.followText "set-order" = false:=b
  have ID:t.place.size=es.size:=by
   have:=hf
   simp only[SetTable.fits,Ye,beq_iff_eq] at this
   exact this.1
  refine wpAny_bind (wpAny_setState_of ho hd hf (wpAny_bind (wpAny_askSetting (wpAny_bind (wpAny_pure ?_)))))
  refine wpAny_bind (wpAny_ite ?_)
  rw[if_neg (by show ¬(w.params.followText "set-order" = true);rw[b'];exact Jk)]
  refine wpAny_ite ?_
  rw[if_neg (by show ¬((!t.plain&&decide (es.size>1))=true);rw[d];exact Jk)]
  refine wpAny_bind ?_
  show wpAny _ _ (if (!t.led && !es.isEmpty)=true then unsupported "set:maker-not-led" else pure ()) _ _ _
  rw[l]
  refine wpAny_pure ?_
  have CS:es.size<=SetTable.below t.place ((z:Int)).toNat:=by
   rw[Uz]
   have c2:=dX g.2 z
   refine Nat.not_lt.mp fun q =>?_
   have hs:SetTable.below t.place z<t.place.size:=by omega
   have:=c2.hi _ hs (Je _)
   have:=c.lo _ hs q
   omega
  refine wpAny_pure ?_
  dsimp only
  rw[Yf CS]
  dsimp only
  refine wpAny_bind (wpAny_setField_rec e (by simp) fun h1 e1 s1 =>?_)
  wp_walk
  refine wpAny_raiseNew_none hh (wpAny_bind (wpAny_isInstance (T := "StopIteration") (b:=true) ⟨_,Js _ rfl,rfl⟩ isSubtype_stop (wpAny_pure (fin _ fun b o nb x =>?_))))
  exact Jc _ (Jc _ (s1.extBut b o nb x))
 | drawn ys p tp tl nt ot n et dt=>
  dsimp only
  unfold seqItems?
  refine wpAny_bind (wpAny_bind (wpAny_load et ?_))
  rw[dt]
  refine wpAny_pure ?_
  dsimp only
  have Dh:ys.length=es.size:=by rw[p.length_eq,Y1]
  have kF:(ys.map fun(k:Nat)=>rawInt k).toArray[(es.size:Int).toNat]? = none:=by
   rw[Uz,Yf (by rw[Jl,Ja,Dh];exact Je _)]
  rw[kF]
  refine wpAny_bind (wpAny_setField_rec e (by simp) fun h0 e0 s0=>wpAny_bind (wpAny_setField_rec (s:={ s with heap:=h0 }) e0 (by simp) fun h1 e1 s1 =>?_))
  wp_walk
  refine wpAny_raiseNew_none hh (wpAny_bind (wpAny_isInstance (T := "StopIteration") (b:=true) ⟨_,Js _ rfl,rfl⟩ isSubtype_stop (wpAny_pure (fin _ fun b o nb x =>?_))))
  exact Jc _ (Jc _ (s1.extBut b o nb (s0.extBut b o nb x)))
end
section
variable {prog:Program}{w:World}{a:Addr}{es:Array (Int×Value)}{ep:Nat}{t:SetTable}{lo:Nat}
theorem sN {A:Around}{it S:Addr}{vals:List Value}(hh:A.handled=none)(hl:vals.length=es.size)(n1:it≠S)(n2:a≠S)(hS:S<lo):
  xq prog w A it S (· = it) es.size (fun i v _=>vals[i]? = some v) (fun _ _=>True) (fun i h=>xo w a es ep t lo vals it i h) where
 sfp:=fun z=>n1 z.symm
 item:=fun i s Q E hi st _ q=>tR st (v:=vals[i]) (Jf (by omega)) fun h' k' z' av=>q _ h' s.toks (fun b o nb x=>k' b o nb x) av (Jf (by omega)) fun _ _ _=>trivial
 stop:=fun s Q E st _ q=>uf hh st hl fun h' k'=>q h' s.toks fun b o nb x=>k' b o nb x
 keepS:=fun i h h' st k=>st.keep fun b o e hb=>k b o (fun z=>by
  rcases hb with rfl|hb
  ·exact n2 z
  ·subst z;exact absurd hS (Nat.not_lt.mpr hb)) e
 keepP:=fun j v h h' p k=>p
theorem wk:isSubtype (.type "set") (.type "set")=pure true:=by
 first|rfl|decide|(unfold isSubtype;rfl)
theorem ou {A:Around}{S:Addr}{o:Obj}(hh:A.in1.handled=none){s:Shared}{Z:Result->Shared->Prop}{res:Value}{c0:Nat}(ho:s.heap.get? a=some o)(hx:o.ExactSet)(hd:o.data = .set es ep t)(hf:t.fits es.size=true)(g:cn t)(l:yd w=false->t.led=true)(hz:es.size<=sizeLine)
  (Ht:a≠S) (hS:s.heap.get? S=some { cls := .type "list",data := .seq #[] c0 })
  (fin:∀h' tk d acc c vals,Keeps s.heap h' (· = S)->vals.length=es.size->U0 vals (es.toList.map (·.2))->mR h' S es.size (fun i v _=>vals[i]? = some v) (fun _ _=>True) acc c->Z (.ok (.ret res)) { s with heap:=h',toks:=tk,drawn:=d }) :
  wpAny (model prog w) A.in1 (Builtin.List.listExtendWith (.ref S) (.ref a) res) (oM prog w A Z) (fun e s'=>Z (.error e) s') s:=by
 have hT:s.TypeIs (.ref a) "set":=⟨o,ho,hx.1⟩
 have u3:Builtin.List.listSameRef (.ref S) (.ref a)=false:=by simp[Builtin.List.listSameRef,Ne.symm Ht]
 have low:=Jm hS
 unfold Builtin.List.listExtendWith
 refine wpAny_bind (wpAny_typeOf hT ?_)
 simp only[u3,show(Value.type "set" == Value.type "list")=false by decide,show(Value.type "set" == Value.type "tuple")=false by decide,Bool.or_false,J6,if_false]
 refine wpAny_bind (sP ho hx hd hf g l hz fun it h1 d vals hl hp hit k1 eV =>?_)
 have Fj:Shared.TypeIs { s with heap:=h1,drawn:=d } (.ref a) "set":=⟨o,k1 _ _ ho,hx.1⟩
 have hint:∀(Q:Bool->Shared->Prop),Q false { s with heap:=h1,drawn:=d } -> wpAny (model prog w) A.in1 (Builtin.List.listLengthHint (.ref a)) Q (fun e s'=>Z (.error e) s') { s with heap:=h1,drawn:=d }:=fun Q q=>by
  unfold Builtin.List.listLengthHint
  refine wpAny_bind (wpAny_specialOf Fj F.slot_set_len.lookup ?_)
  refine wpAny_bind (wpAny_isInstance (T := "set") (b:=true) Fj wk ?_)
  refine wpAny_ite_split (fun z=>absurd z (by decide)) fun _=>wpAny_ite_split (fun _ =>?_) fun z=>absurd (show _=true by decide +kernel) z
  exact wpAny_bind (wpAny_typeOf Fj (wpAny_pure q))
 refine wpAny_bind (wpAny_holding (hint _ ?_))
 have Aj:=k1 _ _ hS
 have nS:it≠S:=fun z=>by subst z;exact absurd low (Nat.not_lt.mpr hit)
 have go:∀(h:Heap) (c tk:Nat),Keeps h1 h (· = S)->h.get? S=some { cls := .type "list",data := .seq #[] c } -> codeAny (model prog w) A (.builtin "list.extend.loop" ⟨[.ref S,.ref it,res],[]⟩) Z { s with heap:=h,toks:=tk,drawn:=d }:=fun h c tk k ob=>by
  have Fd:=sN (prog:=prog) (w:=w) (ep:=ep) (t:=t) (vals:=vals) (A:=A.in1) hh hl nS Ht low
  refine jA Fd hz (s:={ s with drawn:=d }) (g:=h1) (fun h' tk acc c k' G=>fin h' tk d acc c vals (fun b o nb q=>k' b o (fun z=>z.elim (fun z=>by subst z;exact absurd (Jm q) (Nat.not_lt.mpr hit)) nb) (k1 b o q)) hl hp G) es.size 0 h tk #[] c (by omega) (Fd.keepS _ _ _ eV k) ⟨ob,rfl,.nil,fun j v e=>by simp at e⟩ fun b o nb q=>k b o (fun z=>nb (.inr z)) q
 refine wpAny_ite_split (fun _ =>?_) fun z=>absurd (show _=true by decide +kernel) z
 refine wpAny_bind (wpAny_rule (wpAny_bind ?_))
 have o1:=Us (Obj.mapSeq (·.push Value.none)) Aj rfl
 have o2:=Us (Obj.mapSeq (·.pop)) o1 rfl
 refine wpAny_bind (wpAny_updateSeq (s:={ s with heap:=h1,drawn:=d }) Aj rfl (wpAny_updateSeq (hz:=by seq_fits) o1 rfl (wpAny_pure ⟨plainId_quiet PySem.F.plain_extend_loop _,go _ _ _ (fun b o nb q =>?_) o2⟩)))
 exact(Uj _ _ (Ne.symm nb)).trans ((Uj _ _ (Ne.symm nb)).trans q)
theorem m5 {A:Around}{E:Value->Shared->Prop}{o:Obj}(hh:A.handled=none){s:Shared}{Q:List Value->Shared->Prop}(ho:s.heap.get? a=some o)(hx:o.ExactSet)(hd:o.data = .set es ep t)(hf:t.fits es.size=true)(g:cn t)(l:yd w=false->t.led=true)(hz:es.size<=sizeLine)
  (fin:∀h' tk d vals,s.heap.objs.size<=h'.objs.size->(∀b o,s.heap.get? b=some o->h'.get? b=some o)->U0 vals (es.toList.map (·.2))->Q vals { s with heap:=h',toks:=tk,drawn:=d }):wpAny (model prog w) A (collect (.ref a)) Q E s:=by
 unfold collect
 refine wpAny_bind (wpAny_runValue (codeAny_builtin PySem.F.entry_proto_collect ?_))
 rw[Around.under_plainId PySem.F.plain_proto_collect _]
 show wpAny _ A.in1 (newList [] >>= fun l=>again (.builtin "list.__iadd__" ⟨[l,.ref a],[]⟩)) _ _ s
 refine wpAny_bind (wpAny_newObj_type (wpAny_pure ⟨plainId_quiet PySem.F.plain_list_iadd _,codeAny_builtin PySem.F.entry_list_iadd ?_⟩))
 rw[Around.under_plainId PySem.F.plain_list_iadd _]
 have k0:∀b o,s.heap.get? b=some o->(s.heap.push { cls := .type "list",data := .seq ([]:List Value).toArray }).get? b=some o:=fun b o x=>Jc _ x
 refine ou (s:={ s with heap:=s.heap.push { cls := .type "list",data := .seq ([]:List Value).toArray } }) (A:=A) (res := .ref s.heap.objs.size)
  (Z:=fun(r:Result) s'=>match r with
   | .ok (.ret v)=>wpAny (model prog w) A (match v with
    | .ref a=>(load a >>= fun o=>match o.data with
     | .seq xs _=>pure xs.toList
     | _=>unsupported "internal:collect")
    | _=>unsupported "internal:collect") Q E s'
   | .ok _=>False
   | .error e=>E e s') hh (k0 _ _ ho) hx hd hf g l hz (J5 (Jm ho)) (Js _ rfl) fun h' tk d acc c vals k hl hp G =>?_
 refine wpAny_bind (wpAny_load G.ob (wpAny_pure ?_))
 have e:acc.toList=vals:=by
  refine List.ext_getElem? fun j =>?_
  by_cases hj:j<acc.size
  ·rw[Ub,J8 hj]
   exact(G.all j _ (J8 hj)).symm
  ·rw[Ub,Yf (by omega),List.getElem?_eq_none (by have:=G.sz;omega)]
 rw[e]
 exact fin h' tk d vals (Uy (Jm G.ob)) (fun b o x=>k b o (J5 (Jm x)) (k0 b o x)) hp
end
theorem iu {α:Type}[DecidableEq α]:∀{D ns:List α},D.Nodup->(∀k∈D,k∈ns)->ns.length<=D.length->U0 ns D
 | [],ns,_,_,hl=>by rw[Ux (Nat.le_zero.mp hl)]
 | k::D,ns,nd,sub,hl=>by
  obtain⟨nk,vG⟩:=U4.mp nd
  have hk:=sub k Jp
  refine(List.perm_cons_erase hk).trans (U0.cons k (iu vG (fun x hx =>?_) ?_))
  ·exact(List.mem_erase_of_ne (fun z=>nk (by rw[<-z];exact hx))).mpr (sub x (Jo _ hx))
  ·rw[List.length_erase_of_mem hk]
   rw[J1] at hl
   omega
theorem Inv.drawn {X:Cx}{pins:List (Addr×Obj)}{σ:St}{H:Hp}{s:Shared}(d:Drawn)(I:Inv X pins σ H s):Inv X pins σ H { s with drawn:=d }:=⟨I.ok,I.os,I.bare,I.base,I.loc,I.cell,I.free,I.freeC,I.pin,I.aN,I.len⟩
section
variable {X:Cx}
theorem xi:vf X "dict.update" (fun x vs H Q=>pO fun(d o:Addr) (kvs more:List (Key×V))=>x = .ref d/\vs=[.ref o]/\d≠o/\H d=some (.dK kvs)/\H o=some (.dK more)/\kvs.length+more.length<=sizeLine/\Q .non (upd H d (.dK (dI kvs more)))):=by
 intro pins s σ H x vs v us Q I rx rv h
 obtain⟨d,o,kvs,more,rfl,rfl,hdo,hd,ho,hl,q⟩:=h
 cases rx
 obtain⟨u,rfl,ru⟩:=vals1 rv
 cases ru
 obtain⟨z1,ns1,vs1,kv1,dd1⟩:=I.aN d _ hd
 obtain⟨z2,ns2,vs2,kv2,dd2⟩:=I.aN o _ ho
 have l1:=kv1.length
 have l2:=kv2.length
 refine call_meetsIn F.slot_dict_update dd1.typeIs F.entry_dict_update (F.args_dict_update_2 _ _) (meets_dict_update (aP X.prog X.w) d o hdo ns2) ⟨vs1,vs2,dd1,dd2,by omega,fun h' dd' _ hs =>?_⟩
 have ml:=dM more kvs
 have he:∃q,h'.get? d=some q:=let ⟨q,_,_,hq,_⟩:=dd'; ⟨q,hq⟩
 exact⟨.non,_,fH I (by rw[hd];exact True.intro) hs he (lB (by omega) ns1 (KV.merge kv2 kv1) dd'),rfl,q⟩
end
section
variable {prog:Program}{w:World}{K:Type}[DecidableEq K]{knd:PySem.KeyKind prog w K}
variable {A:Around}{R:Result->Shared->Prop}{I:Addr}{fp wr:List Addr}{G:Array GenState->Array GenState->Prop}{n:Nat}{P:Nat->Value->Prop}{St:Nat->Shared->Prop}
theorem jY (W:WalksS prog w A.in1 I fp wr G n P St)(S:Addr)(hS:S∉fp)(ks:Nat->K)(hv:∀i v,P i v->knd.is (ks i) v=true/\v.scannable=true)(hb:n+1<scanBound):
  ∀(k i:Nat) (s:Shared),i+k=n->St i s->bC knd s.heap S (bB ks i)->(∀s',Moved (S::wr) G s s'->bC knd s'.heap S (bB ks n)->R (.ok (.ret .none)) s') ->
   codeAny (model prog w) A (.builtin "set.update.loop" ⟨[.ref S,.ref I],[]⟩) R s
 | 0,i,s,hk,st,hK,fin=>by
  have e:i=n:=by omega
  subst e
  refine codeAny_builtin F.entry_set_update_loop ?_
  rw[Around.under_plainId F.plain_set_update_loop _]
  refine wpAny_bind (m:=pyNext (.ref I)) (W.done s _ _ st fun s' mv =>?_)
  refine wpAny_pure (fin s' (mv.mono fun b hb=>Jo _ hb) (hK.at' fun o e=>mv.heap S o (fun z=>hS (W.sub _ z)) e))
 | k+1,i,s,hk,st,hK,fin=>by
  refine codeAny_builtin F.entry_set_update_loop ?_
  rw[Around.under_plainId F.plain_set_update_loop _]
  refine wpAny_bind (m:=pyNext (.ref I)) (W.item i s _ _ (by omega) st fun v s' pv av mv =>?_)
  obtain⟨h1,h2⟩:=hv i v pv
  have Kc:bC knd s'.heap S (bB ks i):=hK.at' fun o e=>mv.heap S o (fun z=>hS (W.sub _ z)) e
  refine wpAny_bind (m:=holding [v] (setAdd S v)) (wpAny_holding ?_)
  unfold setAdd
  refine wpAny_holding (wpAny_bind (knd.pyHash (k:=ks i) h1 ?_))
  have room:(bB ks i).length+1<scanBound:=by have:=gr ks i;omega
  refine oN (s:={ s' with toks:=s'.toks+1 }) h1 h2 Kc room fun _ h' sb hN =>?_
  refine wpAny_pure ⟨plainId_quiet F.plain_set_update_loop _,?_⟩
  refine jY W S hS ks hv hb k (i+1) _ (by omega) (W.frame _ s' _ _ av (Yt _) fun b hb o e =>?_) hN fun s2 mv2 hK2 =>?_
  ·rw[sb.2 b (fun z:b=S=>hS (by rw[<-z];exact hb))];exact e
  ·refine fin s2 (Moved.trans W.gtrans ((mv.mono fun b hb=>Jo _ hb).then_heap (Yt _) fun b o nb e =>?_) mv2) hK2
   rw[sb.2 b (fun z:b=S=>nb (by rw[z];exact Jp))];exact e
end
section
variable {prog:Program}{w:World}{K:Type}[DecidableEq K]{knd:PySem.KeyKind prog w K}{A:Around}{E:Value->Shared->Prop}{s:Shared}
theorem mW (v:Value){Q₁:Value->Shared->Prop}(h:∀led,(w.params.followText "set-order" = false->led=true)->Q₁ (.ref s.heap.objs.size) { s with heap:=s.heap.push (bK led) }):
  codeAny (model prog w) A (.call (.builtin "set.__new__") ⟨[.type "set",v],[]⟩) (wants Q₁ E) s:=by
 refine codeAny_of_tree (show wpAny _ A.in1 (do checkBuiltinCall "set.__new__" ⟨[.type "set",v],[]⟩;again (.builtin "set.__new__" ⟨[.type "set",v],[]⟩)) _ _ s from ?_)
 refine wpAny_bind (wpAny_of_eq (F.newCall_set_1 v) (wpAny_pure ⟨plainId_quiet F.plain_set_new _,codeAny_builtin F.entry_set_new ?_⟩))
 rw[Around.under_plainId F.plain_set_new _]
 have cJ:=sub_set_self
 obtain⟨hp,g,d,tk,os⟩:=s
 unfold Builtin.«set.__new__» Builtin.Frozenset.newClass
 dsimp only
 wp_walk
 refine wpAny_askSetting (wpAny_pure ?_)
 dsimp only
 simp only[newObj]
 exact wpAny_bind (wpAny_alloc (wpAny_pure (wpAny_pure (h _ fun z=>by show(!w.params.followText "set-order")=true;rw[z];rfl))))
theorem qR {l:Addr}{items:Array Value}{led:Bool}{R:Result->Shared->Prop}(sV:w.params.followText "set-order" = false->led=true)(hh:A.handled=none)(hl:s.heap.IsList l items)(ks:Nat->K)(hv:∀(i:Nat) v,items[i]? = some v->knd.is (ks i) v=true/\v.scannable=true)(hb:items.size+1<scanBound)
  (fin:∀(h':Heap) (tk:Nat),bC knd h' s.heap.objs.size (bB ks items.size)->(∀b o,s.heap.get? b=some o->h'.get? b=some o)->R (.ok (.ret .none)) { s with heap:=h',toks:=tk }) :
  codeAny (model prog w) A (.call (.builtin "set.__init__") ⟨[.ref s.heap.objs.size,.ref l],[]⟩) R { s with heap:=s.heap.push (bK led) }:=by
 have hS:(s.heap.push (bK led)).get? s.heap.objs.size=some (bK led):=Js _ rfl
 have hT:Shared.TypeIs { s with heap:=s.heap.push (bK led) } (.ref s.heap.objs.size) "set":=⟨_,hS,rfl⟩
 refine codeAny_call_builtin F.called_set.init.plain F.entry_set_init ?_
 refine check_set_init_1 hT ?_
 obtain⟨ol,g1,g2,nl,g3⟩:=hl
 obtain⟨c1,c2,c3,c4⟩:=ol
 have g2:c1 = .type "list":=g2
 have g3:c3 = .seq items nl:=g3
 subst g2 g3
 have Ld:Shared.TypeIs { s with heap:=s.heap.push (bK led) } (.ref l) "list":=⟨_,Jc _ g1,rfl⟩
 have gl:(s.heap.push (bK led)).get? l=some { cls := .type "list",dict:=c2,data := .seq items nl,slots:=c4 }:=Jc _ g1
 have G3:(s.heap.push (bK led)).IsList l items:=⟨_,gl,rfl,nl,rfl⟩
 have z1:=F.sub_list_set
 have z2:=F.sub_list_frozenset
 have z3:(Value.type "list" == Value.type "dict")=false:=by decide
 unfold Builtin.«set.__init__» noKeywords
 unfold Builtin.Frozenset.updateFrom
 generalize hPI:pyIter=PI
 wp_walk
 subst hPI
 refine wpAny_pyIter_list G3 ?_
 refine wpAny_bind (wpAny_runValue ?_)
 have lS:l<s.heap.objs.size:=Jm g1
 have sz:(s.heap.push (bK led)).objs.size=s.heap.objs.size+1:=Wg ..
 have nI:l≠(s.heap.push (bK led)).objs.size:=by rw[sz];exact J5 (Wc lS)
 have nS:s.heap.objs.size∉[(s.heap.push (bK led)).objs.size,l]:=by
  rw[sz]
  intro z
  rcases Ug.mp z with z|z
  ·exact J5 (Nat.lt_succ_self _) z
  ·exact Wb lS (Jb.mp z)
 have W:=Walks.list (prog:=prog) (w:=w) (A:=A.in1.in1) (by simp[hh]) _ l nI items
 refine jY W.toS s.heap.objs.size nS ks hv hb items.size 0 _ (by omega) ?st ?k0 ?fin
 case st=>exact⟨⟨_,Js _ rfl,rfl,rfl⟩,G3.push _⟩
 case k0=>exact oG sV (Jc { cls := .type "list_iterator",data := .fields #[.ref l,.int 0 0] } hS)
 case fin=>
  intro s2 mv hK
  obtain⟨h2,g2,d2,t2,o2⟩:=s2
  have q1:g2=s.gens:=mv.gens
  have q2:d2=s.drawn:=mv.drawn
  have q3:o2=s.os:=mv.os
  subst q1 q2 q3
  refine wpAny_pure ?_
  refine wpAny_pure (fin h2 t2 hK fun b o e =>?_)
  have nb:=Jm e
  refine mv.heap b o (fun z =>?_) (Jc _ (Jc _ e))
  rcases Ug.mp z with z|z
  ·exact J5 nb z
  ·have z:=Jb.mp z
   rw[z,sz] at nb
   exact U6 _ (Wf nb)
theorem qO {l:Addr}{items:Array Value}{Q:Value->Shared->Prop}(hh:A.handled=none)(hl:s.heap.IsList l items)(ks:Nat->K)(hv:∀(i:Nat) v,items[i]? = some v->knd.is (ks i) v=true/\v.scannable=true)(hb:items.size+1<scanBound)
  (fin:∀(h':Heap) (tk:Nat),bC knd h' s.heap.objs.size (bB ks items.size)->(∀b o,s.heap.get? b=some o->h'.get? b=some o)->Q (.ref s.heap.objs.size) { s with heap:=h',toks:=tk }) :
  wpAny (model prog w) A (call (.type "set") [.ref l]) Q E s:=by
 have a1:=F.called_set.made
 have a2:=F.called_set.sub
 have a3:=F.called_set.notType
 have a4:=F.called_set.canCreate
 have a5:=F.typeCall_set_1 (.ref l)
 obtain⟨c,tl,a6⟩:=F.called_set.mro
 refine wpAny_call (codeAny_of_tree ?_)
 refine wpAny_pure ⟨Code.quiet_builtin _ (by decide +kernel),codeAny_builtin F.entry_type_call ?_⟩
 rw[Around.under_plain (weight_type_call_type "set" [.ref l] []) rfl]
 repeat (any_goals (first|assumption|wp_step))
 have mk:=mW (prog:=prog) (w:=w) (A:=A.in1) (s:=s) (.ref l) (E:=E) (Q₁:=fun obj s1=>∃led,(w.params.followText "set-order" = false->led=true)/\obj = .ref s.heap.objs.size/\s1={ s with heap:=s.heap.push (bK led) }) fun led sV=>⟨led,sV,rfl,rfl⟩
 refine codeAny_mono mk fun r s1 hr =>?_
 cases r with
 | error e=>exact hr
 | ok fl=>
  cases fl with
  | ret obj=>
   obtain⟨led,sV,rfl,rfl⟩:=hr
   have b1:Shared.TypeIs { s with heap:=s.heap.push (bK led) } (.ref s.heap.objs.size) "set":=⟨_,Js _ rfl,rfl⟩
   have b2:=F.called_set.init.lookup
   have b3:=F.called_set.init.bind (.ref s.heap.objs.size)
   repeat (any_goals (first|assumption|wp_step))
   refine qR sV (A:=A.in1) (by simp[hh]) hl ks hv hb fun h' tk hK old =>?_
   refine wpAny_pure ?_
   exact wpAny_pure (fin h' tk hK old)
  | _=>exact hr.elim
end
section
variable {X:Cx}
theorem qG (hc:X.calm=true):bN X (.type "set") (fun xs H Q=>∃(p:Addr) (zs:List Str),xs=[.ref p]/\aB X.K H p (zs.map V.str)/\zs.length<=4000/\∀(a:Addr) (H':Hp),dz H a (sq (vZ X.prog X.w) a (nK zs)) H'->Q (.ref a) H'):=by
 intro pins s σ H xs us Q I r h
 obtain⟨p,zs,rfl,hq,hl,q⟩:=h
 obtain⟨u,rfl,ru⟩:=vals1 r
 cases ru
 obtain⟨au,rv,pl,hz⟩:=I.list hq
 have hn:au.length=zs.length:=by have:=rv.length;rw[Ja] at this;exact this.symm
 refine qO (knd:=strKind X.prog X.w) (I.ok.hd hc) pl.isList (fun i=>zs.getD i Str.empty) (fun i v e =>?_) (by rw[Jl,hn];unfold scanBound;omega) fun h' tk hK old =>?_
 ·obtain⟨y,h1,h2⟩:=fF rv e
  rw[Jn] at h1
  cases e1:zs[i]? with
  | none=>rw[e1] at h1;cases h1
  | some z=>
   rw[e1] at h1;cases h1
   obtain⟨t,rfl⟩:=h2
   have:zs.getD i Str.empty=z:=by simp[List.getD,e1]
   exact⟨by rw[this];exact strKind_is _ _ _ _,rfl⟩
 ·have en:au.toArray.size=zs.length:=by rw[Jl,hn]
  rw[en] at hK
  exact⟨.ref _,_,I.laid (o:=sq (vZ X.prog X.w) s.heap.objs.size (nK zs)) (t':=tk) old (Je _) (wN hK),rfl,q _ _ ⟨I.aN.fresh (Je _),rfl⟩⟩
theorem mr:∀{vs:List Value},(∀v∈vs,∃k t,v = .str k t)->∃ns,StrsAre vs ns/\∀k,k∈ns ↔ ∃t,Value.str k t∈vs
 | [],_=>⟨[],.nil,fun k=>⟨(fun h=>nomatch h),(fun⟨_,h⟩=>nomatch h)⟩⟩
 | v::vs,h=>by
  obtain⟨ns,h1,h2⟩:=mr (vs:=vs) fun u hu=>h u (Jo _ hu)
  obtain⟨k,t,rfl⟩:=h v Jp
  refine⟨k::ns,.cons k t h1,fun j=>⟨fun hj =>?_,fun⟨u,hu⟩=>?_⟩⟩
  ·rcases Ug.mp hj with rfl|hj
   ·exact⟨t,Jp⟩
   ·obtain⟨u,hu⟩:=(h2 j).mp hj
    exact⟨u,Jo _ hu⟩
  ·rcases Ug.mp hu with e|hu
   ·cases e;exact Jp
   ·exact Jo _ ((h2 j).mpr ⟨u,hu⟩)
theorem uu:∀{vs:List Value} {ns:List Str},StrsAre vs ns->vs.length=ns.length:=by
 intro vs ns h
 induction h with
 | nil=>rfl
 | cons _ _ _ ih=>rw[J1,J1,ih]
theorem nV (hc:X.calm=true):bN X (.builtin "sorted") (fun xs H Q=>∃(a:Addr) (D:List Str),xs=[.ref a]/\H a=some (sq (vZ X.prog X.w) a D)/\D.Nodup/\D.length<64 /\
  ∀(ms:List Str) (q:Addr) (H':Hp),ms.Perm D->dz H q (.lst (ms.map V.str)) H'->Q (.ref q) H'):=by
 intro pins s σ H xs us Q I r h
 obtain⟨a,D,rfl,ha,nd,hl,q⟩:=h
 obtain⟨u,rfl,ru⟩:=vals1 r
 cases ru
 obtain⟨HK,o',es',ep',t',ho',hd',g',l'⟩:=(show ba X.prog X.w H s.heap a (sq (vZ X.prog X.w) a D) from I.aN a _ ha).1
 obtain⟨o,es,ep,t,ho,ex,hd,el,mem,bnd,fit,len⟩:=id HK
 obtain⟨g,l⟩:cn t/\(X.w.params.followText "set-order" = false->t.led=true):=by
  rw[ho] at ho';cases ho'
  rw[hd] at hd';cases hd'
  exact⟨g',l'⟩
 refine Calls.call_function_entry kind_sorted plain_sorted entry_sorted (args_sorted1 _) ?_
 unfold Builtin.«sorted»
 refine wpAny_bind (m:=checkCount "sorted" 1 1 _) (wpAny_pure ?_)
 refine wpAny_bind (m5 (A:=X.A.in1) (show X.A.in1.handled=none from I.ok.hd hc) ho ex hd fit g l (fits_of_scanBound bnd) fun h1 tk d vals hle k1 pm =>?_)
 have hv:∀v∈vals,∃k t,v = .str k t:=fun v hv=>by
  obtain⟨e,he,rfl⟩:=Jv.mp (pm.mem_iff.mp hv)
  obtain⟨⟨k,hk,_⟩,_⟩:=el e he
  obtain⟨t,ht⟩:=Value.isStrOf_shape hk
  exact⟨k,t,ht⟩
 obtain⟨ns,hI,oy⟩:=mr hv
 have hlen:vals.length=D.length:=by rw[pm.length_eq,Ja,Jr,len]
 have Lj:=uu hI
 have pD:U0 ns D:=iu nd (fun k hk=>by
  obtain⟨e,he,h2⟩:=(mem k).mp (decide_eq_true hk)
  obtain⟨t,ht⟩:=Value.isStrOf_shape h2
  exact(oy k).mpr ⟨t,by rw[<-ht];exact pm.mem_iff.mpr (Jv.mpr ⟨e,he,rfl⟩)⟩) (by omega)
 refine wpAny_bind (wpAny_newList ?_ (Jq (show vals.length<=64 by omega) (by decide)))
 have ob:(h1.push (seqObj "list" vals.toArray 0)).get? h1.objs.size=some (seqObj "list" vals.toArray 0):=Js _ rfl
 refine wpAny_bind (wpAny_holding (wpAny_call_entry slot_list_sort ⟨_,ob,rfl⟩ entry_list_sort (list_sort_treeK PyProof.Rows.strKind_oneLt ob hI.keysOf (fun v₁ v₂ rest e=>keyKind_strs (by rw[<-e];exact hI)) (by omega) fun av hp hs=>⟨_,rfl,wpAny_pure ⟨_,rfl,?_⟩⟩) (args_list_sort _)))
 obtain⟨ms,a1,a2,a3⟩:=sorted_out_str hI hp hs
 generalize (arrOf av).map (·.2)=out at a1 ⊢
 obtain⟨e,he⟩:=sortedHeap_at (out:=out) ob
 have hm:ms.length=D.length:=(a2.trans pD).length_eq
 have hr:=lW a1
 have kk:∀b o,s.heap.get? b=some o->(sortedHeap (h1.push (seqObj "list" vals.toArray 0)) h1.objs.size vals out).get? b=some o:=fun b yV x=>by
  have x1:=k1 b yV x
  rw[sortedHeap_old (J5 (Jm x1)) (by rw[size_push'];exact Wc (Jm x1)),Heap.get?_push_ne _ _ _ (J5 (Jm x1))]
  exact x1
 refine⟨.ref h1.objs.size,_,(I.laid (a:=h1.objs.size) (o := .lst (ms.map V.str)) (t':=tk) kk hle ⟨?_,out.toList,e,hr,?_⟩).drawn d,rfl,q ms _ _ (a2.trans pD) ⟨I.aN.fresh hle,rfl⟩⟩
 ·rw[Ja];exact Jq (show ms.length<=64 by omega) (by decide)
 ·simpa [seqObj] using he
theorem vM:vf X "list.remove" (fun x vs H Q=>∃(l:Addr) (xs:List Str) (y:Str),x = .ref l/\vs=[.str y]/\H l=some (.lst (xs.map V.str))/\y∈xs/\∀H',iO H l (.lst ((xs.erase y).map V.str)) H'->Q .non H'):=by
 intro pins s σ H x vs v us Q I rx rv h
 obtain⟨l,xs,y,rfl,rfl,hH,hy,q⟩:=h
 cases rx
 obtain⟨u,rfl,ru⟩:=vals1 rv
 obtain⟨t,rfl⟩:=ru
 obtain⟨z,au,n,r,hl,e⟩:=I.lZ hH
 have hlen:=r.length
 rw[Ja] at hlen
 obtain⟨j,hj⟩:∃j,j=xs.idxOf y:=⟨_,rfl⟩
 have jl:j<xs.length:=by rw[hj];exact List.idxOf_lt_length_iff.mpr hy
 have jy:xs[j]=y:=by simp only[hj];exact List.getElem_idxOf (by rw[<-hj];exact jl)
 have jn:∀m (hm:m<xs.length),m<j->xs[m]≠y:=fun m hm zc w=>by
  have:m<List.findIdx (· == y) xs:=by rw[hj] at zc;exact zc
  have:=List.not_of_lt_findIdx this
  rw[w] at this
  simp at this
 let ev:Value->Bool:=fun u=>match u with | .str a _=>a==y|_=>false
 have at':∀m (hm:m<au.length),∃t',au[m] = .str (xs[m]'(by omega)) t':=fun m hm=>by
  obtain⟨a,h1,h2⟩:=fF r (i:=m) (v:=au[m]) (by simp[hm])
  rw[Jn,Jf (by omega)] at h1
  cases h1
  exact h2
 refine call_meets F.slot_list_remove ⟨_,e,rfl⟩ F.entry_list_remove (F.args_list_remove_2 _ _) (MeetsSeq.list_remove l au.toArray n (.str y t) ev (fun w hw =>?_) j (by rw[Jl];omega) ?_ ?_ (by rw[Jl];omega)) ⟨e,?_⟩
 ·have hw:w∈au:=by simpa using hw
  obtain⟨i,hi,ew⟩:=Yc.mp hw
  obtain⟨t',e'⟩:=at' i hi
  rw[<-ew,e']
  have z:=SeqRoads2.EqGives.str (xs[i]'(by omega)) y t' t
  rw[show((xs[i]'(by omega)).cps.toList==y.cps.toList)=((xs[i]'(by omega))==y) from by rw[Bool.eq_iff_iff,beq_iff_eq,beq_iff_eq,Array.toList_inj];exact⟨fun q=>by generalize xs[i]'(by omega)=x at q ⊢;cases x;cases y;simp_all,fun q=>by rw[q]⟩] at z
  exact z
 ·obtain⟨t',e'⟩:=at' j (by omega)
  show ev au[j]=true
  rw[e']
  show(xs[j]==y)=true
  rw[jy];simp
 ·intro m hm zc
  have nR:m<au.length:=by rw[Jl] at hm;exact hm
  obtain⟨t',e'⟩:=at' m nR
  show ev au[m]=false
  rw[e']
  show(xs[m]==y)=false
  simpa using jn m (by omega) zc
 ·have ex:(xs.map V.str).eraseIdx j=(xs.erase y).map V.str:=by
   rw[List.erase_eq_eraseIdx_of_idxOf (i:=j) hj.symm,Ya,Ya,Jh,List.map_take,List.map_drop]
  refine⟨.non,_,I.uw (ys:=(xs.map V.str).eraseIdx j) (its':=au.eraseIdx j) hH e ?_ (jm j r) (by rw[List.length_eraseIdx];split<;>omega),rfl,?_⟩
  ·simp[Array.eraseIdxIfInBounds,show j<au.length by omega]
  ·exact q _ ⟨by rw[ex]⟩
end
end L2
namespace Z
open PySem L2
noncomputable def top (i:Nat):Stmt:=PySem.Challenge.pw_oddlong_k62_greatest_delay.main.body.getD i (.Pass ⟨0,0,0,0⟩)
noncomputable abbrev h8:Nat:=1
noncomputable abbrev dr:Nat:=2
noncomputable abbrev eZ:Nat:=3
noncomputable abbrev dQ:Nat:=4
noncomputable abbrev g4:Nat:=6
noncomputable abbrev cI:Nat:=7
noncomputable abbrev dF:Nat:=8
noncomputable abbrev fj:Nat:=10
noncomputable abbrev gu:Nat:=11
noncomputable abbrev fg:Nat:=12
noncomputable abbrev fZ:Nat:=13
noncomputable abbrev eY:Nat:=14
noncomputable abbrev gh:Nat:=15
noncomputable abbrev ff:Nat:=16
noncomputable abbrev fv:Nat:=17
noncomputable abbrev eC:Nat:=18
noncomputable abbrev ij:Nat:=19
noncomputable abbrev gH:Nat:=20
theorem sizeOk {n:Nat}(h:n<=10000000):n<=sizeLine:=Jq h (by decide)
theorem fJ (l:List Str)(h:decide l.Nodup=true:=by decide +kernel):l.Nodup:=of_decide_eq_true h
end Z
namespace L2
set_option genSizeOf false
set_option genInjectivity false
set_option genSizeOf false
set_option genInjectivity false
end L2
namespace Z
open PySem L2
structure mE (H:Hp)(b c:Addr)(t:Int)(ns:List Int)(ex:List (Key×V)):Prop where
 d:H b=some (.dK ((.inr "cells",.ref c)::(.inr "turn",.int t)::ex))
 xl:ex=[]∨ex=[(.inr "great",.int 1)]
 l:H c=some (.lst (ns.map V.int))
 ne:0<ns.length
 le:ns.length<=64
noncomputable def jB (H:Hp)(b c:Addr):Hp:=fun a=>if a=b∨a=c then none else H a
theorem g7 {H:Hp}{b c a:Addr}(h1:a≠b)(h2:a≠c):jB H b c a=H a:=if_neg (fun z=>z.elim h1 h2)
theorem i5 {H:Hp}{b c a:Addr}{o:HO}(h:jB H b c a=some o):H a=some o/\a≠b/\a≠c:=by
 unfold jB at h
 split at h
 ·cases h
 ·rename_i n
  exact⟨h,fun z=>n (.inl z),fun z=>n (.inr z)⟩
theorem mE.bc {H:Hp}{b c:Addr}{t:Int}{ns:List Int}{ex:List (Key×V)}(x:mE H b c t ns ex):b≠c:=uC x.d x.l (by intro z;cases z)
theorem mE.uI {H:Hp}{b c:Addr}{t:Int}{ns:List Int}{ex:List (Key×V)}(x:mE H b c t ns ex):cN H b (.str "turn") (some (.int t)):=cN.k (k:=Sum.inr "turn") x.d
theorem mE.g6 {H:Hp}{b c:Addr}{t:Int}{ns:List Int}{ex:List (Key×V)}(x:mE H b c t ns ex):cN H b (.str "cells") (some (.ref c)):=cN.k (k:=Sum.inr "cells") x.d
theorem mE.tV {H:Hp}{b c:Addr}{t:Int}{ns:List Int}{ex:List (Key×V)}(x:mE H b c t ns ex)(t':Int):gj H b (.str "turn") (.int t') (upd H b (.dK ((.inr "cells",.ref c)::(.inr "turn",.int t')::ex))):=
 by
 rcases x.xl with h|h
 ·subst h;exact gj.k (k:=Sum.inr "turn") x.d (by show 2<sizeLine;decide)
 ·subst h;exact gj.k (k:=Sum.inr "turn") x.d (by show 3<sizeLine;decide)
theorem mE.turned {H:Hp}{b c:Addr}{t:Int}{ns:List Int}{ex:List (Key×V)}(x:mE H b c t ns ex)(t':Int):mE (upd H b (.dK ((.inr "cells",.ref c)::(.inr "turn",.int t')::ex))) b c t' ns ex:=
 ⟨aE,x.xl,by rw[aj (Ne.symm x.bc)];exact x.l,x.ne,x.le⟩
theorem kD {H:Hp}{b c:Addr}{o:HO}:jB (upd H b o) b c=jB H b c:=by
 funext a;unfold jB;split
 ·rfl
 ·rename_i n;exact aj (fun z=>n (.inl z))
theorem qA {H:Hp}{b c:Addr}{o:HO}:jB (upd H c o) b c=jB H b c:=by
 funext a;unfold jB;split
 ·rfl
 ·rename_i n;exact aj (fun z=>n (.inr z))
noncomputable def kY:Sp:=fun vs H Q _=>BU fun(b c:Addr) (t:Int) (ns:List Int) (many:Int) (ex:List (Key×V))=>vs=[.ref b,.int many]/\mE H b c t ns ex/\0<=t/\t<100000000/\0<many/\many<1073741824 /\
 ∀(r:Int) (H':Hp) (vn:List Int),0<=r->r<many->mE H' b c (t+1) vn ex->aw (jB H b c) (jB H' b c)->Q (.int r) H'
theorem at_of {ns:List Int}{p:Int}(h0:0<=p)(h1:p<ns.length):∃v,oJ (ns.map V.int) p=some (.int v)/\ns[p.toNat]? = some v:=by
 have hk:p.toNat<ns.length:=by omega
 have ek:p=((p.toNat:Nat):Int):=by omega
 have q:oJ (ns.map V.int) ((p.toNat:Nat):Int)=some (.int ns[p.toNat]):=lH (by rw[Jn,Jf hk]<;>rfl)
 rw[<-ek] at q
 exact⟨_,q,Jf hk⟩
theorem zh {a j m:Int}(h0:0<m)(h:m<2^64):oS (a%m) j:=by
 have h1:=Int.emod_nonneg a (b:=m) (by omega)
 have h2:=Int.emod_lt_of_pos a h0
 exact .inl ⟨by omega,by omega⟩
theorem yF {n:Nat}{p:Int}(h0:0<=p)(h1:p<n):sf n p=some p.toNat:=by unfold sf;rw[if_pos h0,if_pos h1]
theorem jv {H H':Hp}{b c:Addr}(h:∀a o,a≠b->a≠c->H a=some o->H' a=some o):aw (jB H b c) (jB H' b c):=fun a o e=>by
 refine ae.el (i5 e) _ ?_
 rintro e h1 h2
 rw[g7 h1 h2]
 exact h a o h1 h2 e
end Z
namespace L2
open PySem
noncomputable def Gm (t:TG):Prop:=∀x σ H (Q Q':St->Hp->Prop),(∀a b,Q a b->Q' a b)->t x σ H Q->t x σ H Q'
noncomputable def DT (t:qP):Prop:=∀x σ H (Q Q':St->Hp->Prop),(∀a b,Q a b->Q' a b)->t x σ H Q->t x σ H Q'
theorem aU {i:Nat}:Gm (fC i):=fun _ _ _ _ _ h q=>h _ _ q
theorem bT:DT zq:=fun _ _ _ _ _ h q=>⟨q.1,h _ _ q.2⟩
theorem cu {t:TG}{u:qP}(a:Gm t)(b:DT u):DT (sU t u):=fun _ _ _ _ _ h ⟨v,r,e,q⟩=>⟨v,r,e,a _ _ _ _ _ (fun _ _ z=>b _ _ _ _ _ h z) q⟩
theorem aR.get {K:Jd}{H:Hp}:∀{ds:List PyData} {vs:List V} {i:Nat} {d:PyData},aR K H ds vs->ds[i]? = some d->∃v,vs[i]? = some v/\Den K H d v
 | [],_,_,_,_,e=>by simp at e
 | d::ds,vs,i,d',h,e=>by
  unfold aR at h
  obtain⟨v,r,rfl,h1,h2⟩:=h
  cases i with
  | zero=>cases e;exact⟨v,rfl,h1⟩
  | succ i=>exact aR.get (i:=i) h2 e
theorem aR.len {K:Jd}{H:Hp}:∀{ds:List PyData} {vs:List V},aR K H ds vs->vs.length=ds.length
 | [],_,h=>by unfold aR at h;subst h;rfl
 | d::ds,vs,h=>by
  unfold aR at h
  obtain⟨v,r,rfl,h1,h2⟩:=h
  rw[J1,J1,aR.len h2]
theorem Den.pair {K:Jd}{H:Hp}{a b:Str}{v:V}(h:Den K H (.tuple [.str a,.str b]) v):∃p,v = .ref p/\iC K H p [.str a,.str b]:=by
 unfold Den at h
 obtain⟨p,vs,e,h1,h2⟩:=h
 unfold aR at h2
 obtain⟨v1,r1,rfl,d1,h2⟩:=h2
 unfold aR at h2
 obtain⟨v2,r2,rfl,d2,h2⟩:=h2
 unfold aR at h2
 subst h2
 unfold Den at d1 d2
 subst d1 d2
 exact⟨p,e,h1⟩
end L2
namespace Z
open PySem L2
theorem cA {H:Hp}{p:Addr}(h:H p=none)(o:HO):aw H (upd H p o):=fun b u q=>by rw[aj (ai q h)];exact q
end Z
namespace L2
open PySem
theorem dJ {J:It}{g:TG}{tb:TS}{D:Ends}{σ:St}{H:Hp}(N:Nat)(Pv:Nat->St->Hp->Prop)(h0:Pv 0 σ H)
  (go:∀i σ H,i<N->Pv i σ H->J.go i H/\∀x H',J.yld i H x H'->g x σ H' fun σ2 H2=>tb { D with nx:=Pv (i+1),ct:=Pv (i+1),bk:=D.nx } σ2 H2)
  (stop:∀ σ H,Pv N σ H->J.stop N H/\D.nx σ H) :
  ∃W:Nat->Nat->St->Hp->Prop,(∃m,W 0 m σ H)/\∀i m σ H,W i m σ H ->
   (J.stop i H/\D.nx σ H)∨(J.go i H/\∃N:St->Hp->Prop,(∀ σ' H',N σ' H'->∃m',m'<m/\W (i+1) m' σ' H')/\∀x H',J.yld i H x H'->g x σ H' fun σ2 H2=>tb { D with nx:=N,ct:=N,bk:=D.nx } σ2 H2):=by
 refine⟨fun i m σ H=>m=N-i/\i<=N/\Pv i σ H,⟨N,by simp,Um _,h0⟩,?_⟩
 intro i m σ H
 refine ae.go ?_
 rintro rfl hi p
 by_cases bP:i<N
 ·obtain⟨g1,g2⟩:=go i σ H bP p
  exact .inr ⟨g1,Pv (i+1),fun σ' H' p'=>⟨N-(i+1),by omega,rfl,bP,p'⟩,g2⟩
 ·have e:i=N:=by omega
  subst e
  exact .inl (stop σ H p)
theorem bW {t u:TS}{D:Ends}{σ:St}{H:Hp}(Ex:St->Hp->Prop)(h:∀Nx:St->Hp->Prop,(∀ σ H,Ex σ H->Nx σ H)->t { D with nx:=Nx } σ H)(fin:∀ σ H,Ex σ H->u D σ H):sW t u D σ H:=h (u D) fin
theorem iM {c:TT}{tb:TS}{D:Ends}{σ:St}{H:Hp}(Pv:Nat->St->Hp->Prop)(h0:∃m,Pv m σ H)
  (hs:∀m σ H,Pv m σ H->c σ H fun b H1=>if b=true then ∃N:St->Hp->Prop,(∀ σ' H',N σ' H'->∃m',m'<m/\Pv m' σ' H')/\tb { D with nx:=N,ct:=N,bk:=D.nx } σ H1 else D.nx σ H1):ig c tb D σ H:=⟨Pv,h0,hs⟩
theorem dk {te:TE}{g:TG}{u:TS}{D:Ends}{σ:St}{H:Hp}(Ex:V->Hp->Prop)(h:∀Qn:VK,(∀v H,Ex v H->Qn v H)->te σ H Qn)(fin:∀v H,Ex v H->g v σ H (u D)):sW (q5 te g) u D σ H:=h _ fin
theorem yC {te:TE}{g:TG}{D:Ends}{σ:St}{H:Hp}(Ex:V->Hp->Prop)(h:∀Qn:VK,(∀v H,Ex v H->Qn v H)->te σ H Qn)(fin:∀v H,Ex v H->g v σ H D.nx):q5 te g D σ H:=h _ fin
theorem gn {i:Nat}{v:V}{σ:St}{H:Hp}{Q:St->Hp->Prop}(h:Q (σ.set i (some v)) H):fC i v σ H Q:=h
end L2
namespace Z
open PySem L2
noncomputable def Bx (H:Hp)(b c:Addr)(t:Int):Prop:=bV fun(ns:List Int) (ex:List (Key×V))=>mE H b c t ns ex
structure Step (b c:Addr)(H H':Hp)(t t' N:Int):Prop where
 le:t<=t'
 ub:t'<=t+N
 bx:Bx H' b c t'
 sm:aw (jB H b c) (jB H' b c)
theorem Step.refl {b c:Addr}{H:Hp}{t:Int}(h:Bx H b c t):Step b c H H t t 0:=⟨Yb _,by omega,h,aw.refl _⟩
theorem Step.trans {b c:Addr}{H H' H2:Hp}{t t' t2 N M:Int}(x:Step b c H H' t t' N)(y:Step b c H' H2 t' t2 M):Step b c H H2 t t2 (N+M):=
 ⟨by have:=x.le;have:=y.le;omega,by have:=x.ub;have:=y.ub;omega,y.bx,x.sm.trans y.sm⟩
theorem Step.more {b c:Addr}{H H':Hp}{t t' N M:Int}(x:Step b c H H' t t' N)(h:N<=M):Step b c H H' t t' M:=⟨x.le,by have:=x.ub;omega,x.bx,x.sm⟩
theorem Bx.bM {H:Hp}{b c p:Addr}{t:Int}(x:Bx H b c t)(h:H p=none):p≠b/\p≠c:=by
 obtain⟨ns,ex,x⟩:=x
 exact⟨fun z=>(by rw[z,x.d] at h;cases h),fun z=>(by rw[z,x.l] at h;cases h)⟩
theorem Bx.upd {H:Hp}{b c p:Addr}{t:Int}{o:HO}(x:Bx H b c t)(h1:p≠b)(h2:p≠c):Bx (upd H p o) b c t:=by
 obtain⟨ns,ex,x⟩:=x
 exact⟨ns,ex,by rw[aj (Ne.symm h1)];exact x.d,x.xl,by rw[aj (Ne.symm h2)];exact x.l,x.ne,x.le⟩
theorem Step.new {b c p:Addr}{H H':Hp}{t t' N:Int}(x:Step b c H H' t t' N)(h:H' p=none)(o:HO):Step b c H (upd H' p o) t t' N:=
 ⟨x.le,x.ub,x.bx.upd (x.bx.bM h).1 (x.bx.bM h).2,x.sm.trans (jv fun a u _ _ e=>by rw[aj (ai e h)];exact e)⟩
theorem Step.chg {b c p:Addr}{H H':Hp}{t t' N:Int}(x:Step b c H H' t t' N)(h:H p=none)(h1:p≠b)(h2:p≠c)(o:HO):Step b c H (upd H' p o) t t' N:=
 ⟨x.le,x.ub,x.bx.upd h1 h2,fun a u e=>by
  have q:=x.sm a u e
  refine ae.el (i5 q) _ ?_
  rintro q n1 n2
  rw[g7 n1 n2,aj (fun z =>?_)]
  ·exact q
  ·rw[z] at e
   rw[(i5 e).1] at h;cases h⟩
theorem Step.old {b c a:Addr}{H H':Hp}{t t' N:Int}{o:HO}(x:Step b c H H' t t' N)(h:H a=some o)(h1:a≠b)(h2:a≠c):H' a=some o:=
 (i5 (x.sm a o (by rw[g7 h1 h2];exact h))).1
theorem Step.fresh {b c a:Addr}{H H':Hp}{t t' N:Int}(x:Step b c H H' t t' N)(hb:Bx H b c t)(h:H' a=none):H a=none:=by
 obtain⟨h1,h2⟩:=x.bx.bM h
 cases e:H a with
 | none=>rfl
 | some o=>rw[x.old e h1 h2] at h;cases h
theorem aw.jB {H H':Hp}{b c:Addr}(s:aw H H'):aw (jB H b c) (jB H' b c):=jv fun a o _ _ e=>s a o e
theorem Bx.same {H H':Hp}{b c:Addr}{t:Int}(x:Bx H b c t)(s:aw H H'):Bx H' b c t:=by
 obtain⟨ns,ex,x⟩:=x
 exact⟨ns,ex,s _ _ x.d,x.xl,s _ _ x.l,x.ne,x.le⟩
theorem Step.same {b c:Addr}{H H':Hp}{t:Int}(x:Bx H b c t)(s:aw H H'):Step b c H H' t t 0:=⟨Yb _,by omega,x.same s,aw.jB s⟩
noncomputable def rB:Sp:=fun vs H Q _=>pO fun(b c:Addr) (t many:Int)=>vs=[.ref b,.int many]/\Bx H b c t/\0<=t/\t<100000000/\0<many/\many<1073741824 /\
 ∀(r:Int) (H':Hp),0<=r->r<many->Step b c H H' t (t+1) 1->Q (.int r) H'
theorem vX {vs:List V}{H:Hp}{Q:VK}{E:XK}(h:rB vs H Q E):kY vs H Q E:=by
 obtain⟨b,c,t,many,e,⟨ns,ex,bx⟩,h1,h2,h3,h4,q⟩:=h
 exact⟨b,c,t,ns,many,ex,e,bx,h1,h2,h3,h4,fun r H' vn r0 r1 bx' sm=>q r H' r0 r1 ⟨by omega,by omega,⟨vn,ex,bx'⟩,sm⟩⟩
theorem zb (vs:List V)(j:Nat):nN vs none (some (j:Int))=vs.take j:=by
 unfold nN
 rw[HT.rU,HT.wQ,List.drop_zero,Nat.sub_zero]
 rcases Nat.le_total j vs.length with h|h
 ·rw[Yu h]
 ·rw[Nat.min_eq_right h,Y4 (Je _),Y4 h]
theorem Fn.imp {P:Program}{w:World}{K:Jd}{mg:Str->Option Value}{base:Heap}{k:Nat}{x:Str}{ps:List Str}{sp B7:Sp}(F:Fn P w K mg base k x ps sp)(h:∀vs H Q E,B7 vs H Q E->sp vs H Q E):Fn P w K mg base k x ps B7:=by
 refine ae.el (F.ex) _ ?_
 rintro f fd a b c d
 exact⟨f,fd,a.imp h,b,c,d⟩
theorem Step.dy {b c p:Addr}{H H' H2:Hp}{t t' N:Int}{o:HO}(x:Step b c H H' t t' N)(n:dz H' p o H2):Step b c H H2 t t' N:=by rw[n.eq];exact x.new n.nn _
theorem Step.vC {b c p:Addr}{H H' H2:Hp}{t t' N:Int}{o:HO}(x:Step b c H H' t t' N)(n:iO H' p o H2)(h:H p=none)(h1:p≠b)(h2:p≠c):Step b c H H2 t t' N:=by rw[n.eq];exact x.chg h h1 h2 _
theorem mE.same {H H':Hp}{b c:Addr}{t:Int}{ns:List Int}{ex:List (Key×V)}(x:mE H b c t ns ex)(s:aw H H'):mE H' b c t ns ex:=⟨s _ _ x.d,x.xl,s _ _ x.l,x.ne,x.le⟩
section
variable {P:Program}{w:World}{K:Jd}{mg:Str->Option Value}{base:Heap}{f:Addr}{fd:FuncData}
theorem bX:bb ["_law_state", "_law_many", "_law_turn", "_law_place", "_law_cell", "_law_digit", "_law_mixed"] ["_law_state", "_law_many"] (aF (top gu)):=⟨rfl,rfl,rfl,by decide +kernel,rfl,by decide +kernel,by decide +kernel⟩
theorem wm (F:d5 K "_law_take" "_law_take" (top gu) f fd)(T:Nm mg):cf P w K mg base ir 1 f fd ["_law_state", "_law_many"] kY:=by
 refine F.ok bX (fun vs H Q E h =>?_) (fun dS A outer s H vs Q E hr h =>?_)
 ·obtain⟨b,c,t,ns,many,ex,rfl,_⟩:=h
  rfl
 unfold kY at h
 refine ae.el h _ ?_
 clear h
 rintro b c t ns many ex rfl bx t0 t1 m0 m1 q
 have hu:=jE hr
 refine⟨_,(ah (aG (i:=2) bX.nd rfl (Or.inl rfl) (aW eJ (cc hu (pv 0) aZ (fun _ _=>rfl)) ar))
  (ah (gI hu (pv 0) aZ (pv 2) rfl)
  (ah (aG (i:=3) bX.nd rfl (Or.inl rfl) (aW g5 (pv 2) (az (dP K) rfl T.n_len (by rfl) (aa (cc hu (pv 0) aZ (fun _ _=>rfl)) ag))))
  (ah (aG (i:=4) bX.nd rfl (Or.inl rfl) (kI (Ar K) (cc hu (pv 0) aZ (fun _ _=>rfl)) (pv 3) (fun _ _=>rfl)))
  (ah (cR (aI Cq (pv 4) (aW Ab ar ar) (aQ _)) (ah (pd (az vI rfl T.n_divmod (by rfl) (aa (pv 4) (aa (pv 1) ag))) (tupK K 2 rfl (aJ (yI (cc hu (pv 0) aZ (fun _ _=>rfl)) (pv 3) set_list) (aJ (ak (i:=5) bX.nd rfl (Or.inl rfl)) cL))))
  (ao (aX (pv 5)))) bu)
  (ah (aG (i:=6) bX.nd rfl (Or.inl rfl) (aW g5 (aW lX (aW eJ (aW eJ (aW g5 (pv 4) ar) (aW lX (aW lX (pv 2) (pv 2)) ar)) ar) ar) ar))
  (ah (aG (i:=6) bX.nd rfl (Or.inl rfl) (aW g5 (aW lX (pv 6) (pv 6)) ar))
  (ao (aX (aW g5 (aW wI (aW g5 (aW lX (aW eJ (pv 6) (aW lX (pv 2) ar)) ar) ar) ar) (pv 1))))))))))),?_⟩
 refine⟨_,rfl,b,_,rfl,bx.uI,.inl ⟨_,_,rfl,rfl,?_⟩⟩
 refine⟨_,rfl,_,rfl,b,_,rfl,bx.tV (t+1),?_⟩
 have qw:=bx.turned (t+1)
 refine⟨_,rfl,_,rfl,b,_,rfl,qw.g6,_,_,rfl,.inl ⟨_,aB.of qw.l,rfl⟩,_,_,rfl,rfl,?_,?_⟩
 ·rw[Ja];have:=qw.ne;omega
 have hlen:(ns.map V.int).length=ns.length:=Ja _
 have Gn:0<=(t+1)%((ns.map V.int).length:Int):=Int.emod_nonneg _ (by have:=qw.ne;omega)
 have mX:(t+1)%((ns.map V.int).length:Int)<ns.length:=by rw[hlen];exact Int.emod_lt_of_pos _ (by have:=qw.ne;omega)
 refine ae.el (at_of Gn mX) _ ?_
 rintro v hv G2
 refine⟨_,rfl,b,_,rfl,qw.g6,_,rfl,.inl ⟨c,_,_,_,rfl,rfl,aB.of qw.l,hv,?_⟩⟩
 refine⟨_,rfl,_,_,rfl,rfl,⟨by decide,by decide,by decide⟩,_,_,rfl,rfl,_,rfl,?_⟩
 refine eK (fun _ =>?_) (fun _ =>?_)
 ·refine⟨_,rfl,_,rfl,v,many,rfl,⟨m0,by omega⟩,fun pt H2 n2 =>?_⟩
  obtain⟨hpb,hpc⟩:pt≠b/\pt≠c:=⟨fun z=>(by have:=n2.nn;rw[z,qw.d] at this;cases this),fun z=>(by have:=n2.nn;rw[z,qw.l] at this;cases this)⟩
  have zA:=qw.same n2.same
  refine⟨pt,_,rfl,iC.of n2.at,rfl,_,_,rfl,?_⟩
  refine⟨_,rfl,b,_,rfl,zA.g6,_,rfl,c,_,_,_,rfl,rfl,zA.l,yF Gn (by simpa only [hlen] using mX),?_⟩
  refine⟨_,_,rfl,rfl,_,rfl,?_⟩
  refine q (v%many) _ (ns.set ((t+1)%((ns.map V.int).length:Int)).toNat (v / many)) (Int.emod_nonneg _ (by omega)) (Int.emod_lt_of_pos _ m0) ⟨?_,zA.xl,?_,?_,?_⟩ ?_
  ·rw[aj zA.bc];exact zA.d
  ·rw[aE,List.map_set]
  ·rw[List.length_set];exact qw.ne
  ·rw[List.length_set];exact qw.le
  ·rw[qA]
   refine jv fun a o h1 h2 e =>?_
   rw[n2.ne (fun z =>?_),aj h1]
   ·exact e
   ·have z2:=n2.nn
    rw[aj hpb,<-z,e] at z2
    cases z2
 ·refine⟨_,rfl,_,_,rfl,rfl,(by dsimp only;decide),_,rfl,_,rfl,.inl ⟨_,_,rfl,rfl,.inl ⟨by omega,by omega⟩,.inl ⟨_,_,rfl,rfl,.inr ⟨by decide,by decide⟩,.inl ⟨_,_,rfl,rfl,.inl ⟨_,_,rfl,rfl,.inl ⟨_,_,rfl,rfl,.inr ⟨by decide,by decide⟩,_,_,rfl,rfl,(by dsimp only;decide),?_⟩⟩⟩⟩⟩⟩
  have cm:∀(x y p:Int),0<p->p<2^64->oS (x%p) y:=fun x y p h0 h1=>zh h0 h1
  refine⟨_,rfl,_,rfl,.inl ⟨_,_,rfl,rfl,cm _ _ _ (by decide) (by decide),?_⟩⟩
  refine⟨_,_,rfl,rfl,(by dsimp only;decide),?_⟩
  refine⟨_,rfl,_,rfl,.inl ⟨_,_,rfl,rfl,.inl ⟨by omega,by omega⟩,.inl ⟨_,_,rfl,rfl,.inl ⟨_,_,rfl,rfl,.inr ⟨by decide,by decide⟩,_,_,rfl,rfl,(by dsimp only;decide),_,_,rfl,rfl,⟨by decide,by decide⟩,_,rfl,_,_,rfl,rfl,m0,?_⟩⟩⟩⟩
  exact q _ _ ns (Int.emod_nonneg _ (by omega)) (Int.emod_lt_of_pos _ m0) qw (by rw[kD];exact aw.refl _)
end
noncomputable def jL (x:Str):Prop:=∀c∈x.cps.toList,c=48∨c=49
theorem jf (g:Str):∀(parts:List Str) (acc:Array Nat),(parts.foldl (fun acc p=>acc++g.cps++p.cps) acc).toList=acc.toList++parts.flatMap (fun p=>g.cps.toList++p.cps.toList)
 | [],acc=>by simp
 | p::r,acc=>by rw[List.foldl_cons,jf g r];simp
theorem jq (xs:List Str):(Txt.join "" xs).cps.toList=xs.flatMap (fun p=>p.cps.toList):=by
 cases xs with
 | nil=>rfl
 | cons x r=>
  show((r.foldl (fun acc p=>acc++(Str.ofString "").cps++p.cps) x.cps)).toList=_
  rw[jf]
  have e:(Str.ofString "").cps.toList=[]:=rfl
  simp[e]
noncomputable abbrev Ga:Str := "abcdefghijklmnopqrstuvwxyz"
theorem uJ:Ga.cps.toList=(Wh 26).map (97 + ·):=by decide +kernel
theorem sZ {r:Int}(h0:0<=r)(h1:r<26):oJ Ga.cps.toList r=some (97+r.toNat):=by
 refine lQ h0 ?_
 rw[uJ,Jn,List.getElem?_range (by omega)]
 rfl
theorem bh (x y:Str):(x++y).cps.toList=x.cps.toList++y.cps.toList:=by
 show(x.cps++y.cps).toList=_
 simp
theorem str_len (x:Str):x.length=x.cps.toList.length:=by simp[Str.length]
theorem dh (x y:Str):(x++y).length=x.length+y.length:=by rw[str_len,bh,Jg,<-str_len,<-str_len]
theorem len_one (ch:Nat):(⟨#[ch]⟩:Str).length=1:=rfl
noncomputable def Sh (n:Nat)(d:PyData):Prop:=d.canLay0=true/\d.depth<=n
theorem Sh.all {n:Nat}:∀{ds:List PyData},(∀d∈ds,Sh n d)->PyData.canLayAll0 ds=true/\PyData.depthAll ds<=n
 | [],_=>⟨by simp[PyData.canLayAll0],by simp[PyData.depthAll]⟩
 | d::ds,h=>by
  obtain⟨h1,h2⟩:=h d Jp
  obtain⟨h3,h4⟩:=Sh.all fun e he=>h e (Jo _ he)
  exact⟨by simp[PyData.canLayAll0,h1,h3],by simp only[PyData.depthAll];omega⟩
theorem Sh.list {n:Nat}{ds:List PyData}(h:∀d∈ds,Sh n d):Sh (n+1) (.list ds):=by
 obtain⟨h1,h2⟩:=Sh.all h
 exact⟨by simpa [PyData.canLay0] using h1,by simp only[PyData.depth];omega⟩
theorem Sh.tuple {n:Nat}{ds:List PyData}(h:∀d∈ds,Sh n d):Sh (n+1) (.tuple ds):=by
 obtain⟨h1,h2⟩:=Sh.all h
 exact⟨by simpa [PyData.canLay0] using h1,by simp only[PyData.depth];omega⟩
theorem Sh.shaped {n:Nat}{d:PyData}(h:Sh n d)(hn:n<=64):SeqAt.shaped d=true:=by
 unfold SeqAt.shaped
 rw[h.1,decide_eq_true (Jq h.2 hn)]
 rfl
theorem Sh.str {n:Nat}{x:Str}(h:PyData.canLay0 (.str x)=true):Sh n (.str x):=⟨h,by simp[PyData.depth]⟩
theorem Sh.int {n:Nat}{i:Int}:Sh n (.int i):=⟨by simp[PyData.canLay0],by simp[PyData.depth]⟩
theorem cC {x:Str}(h:∀ch∈x.cps.toList,ch<128):PyData.canLay0 (.str x)=true:=by
 simp only[PyData.canLay0,PyData.strOk]
 rw[<-Array.all_toList,List.all_eq_true]
 intro ch hc
 have:=h ch hc
 exact decide_eq_true (by omega)
theorem Den.strs {K:Jd}{H:Hp}:∀(xs:List Str),aR K H (xs.map PyData.str) (xs.map V.str)
 | []=>by unfold aR;rfl
 | x::xs=>by
  rw[Ui]
  unfold aR
  exact⟨_,_,rfl,by unfold Den;rfl,Den.strs xs⟩
theorem Den.list {K:Jd}{H:Hp}{l:Addr}{ds:List PyData}{vs:List V}(h:aB K H l vs)(hd:aR K H ds vs):Den K H (.list ds) (.ref l):=by
 unfold Den
 exact⟨l,vs,rfl,h,hd⟩
theorem aR.of_get {K:Jd}{H:Hp}:∀{ds:List PyData} {vs:List V},ds.length=vs.length->(∀(j:Nat) d v,ds[j]? = some d->vs[j]? = some v->Den K H d v)->aR K H ds vs
 | [],[],_,_=>by unfold aR;rfl
 | [],_::_,h,_=>by simp at h
 | _::_,[],h,_=>by simp at h
 | d::ds,v::vs,h,g=>by
  unfold aR
  exact⟨v,vs,rfl,g 0 d v rfl rfl,aR.of_get (by simpa using h) fun j d' v' h1 h2=>g (j+1) d' v' h1 h2⟩
theorem Den.pairOf {K:Jd}{H:Hp}{a:Addr}{x y:Str}(h:H a=some (.tup [.str x,.str y])):Den K H (.tuple [.str x,.str y]) (.ref a):=by
 unfold Den
 refine⟨a,_,rfl,iC.of h,?_⟩
 unfold aR
 refine⟨_,_,rfl,by unfold Den;rfl,?_⟩
 unfold aR
 refine⟨_,_,rfl,by unfold Den;rfl,?_⟩
 unfold aR
 rfl
noncomputable def tI (K:Jd)(H:Hp)(bk:List (Str×Str))(v:V):Prop:=bV fun(l:Addr) (vs:List V)=>v = .ref l/\H l=some (.lst vs)/\aR K H (bk.map fun q =>.tuple [.str q.1,.str q.2]) vs
theorem tZ {K:Jd}{H1 H':Hp}{b c p:Addr}{t:Int}{as:List Addr}{ns cs:List Str}(bx:Bx H1 b c t)(hp:H1 p=none)(hl:H' p=some (.lst (as.map V.ref)))(hle:ns.length=cs.length)
  (Al:as.length=min (ns.map V.str).length (cs.map V.str).length) (h:∀(j:Nat) a x y,as[j]? = some a->(ns.map V.str)[j]? = some x->(cs.map V.str)[j]? = some y->H1 a=none/\H' a=some (.tup [x,y])) :
  tI K (jB H' b c) (ns.zip cs) (.ref p):=by
 have Kf:as.length=ns.length:=by rw[Al,Ja,Ja,<-hle,Nat.min_self]
 obtain⟨pb,pc⟩:=bx.bM hp
 refine⟨p,_,rfl,by rw[g7 pb pc];exact hl,aR.of_get ?_ fun j d v hd hv =>?_⟩
 ·rw[Ja,Ja,List.length_zip];omega
 ·rw[Jn] at hd hv
  have hj:j<as.length:=by
   cases e:as[j]? with
   | none=>rw[e] at hv;cases hv
   | some a=>exact(Ju.mp e).1
  have e1:as[j]? = some as[j]:=Jf hj
  have e2:ns[j]? = some (ns[j]'(by omega)):=Jf (by omega)
  have e3:cs[j]? = some (cs[j]'(by omega)):=Jf (by omega)
  rw[e1] at hv;cases hv
  rw[(List.getElem?_zip_eq_some (z:=(ns[j]'(by omega),cs[j]'(by omega)))).mpr ⟨e2,e3⟩] at hd
  cases hd
  obtain⟨h1,h2⟩:=h j as[j] _ _ e1 (by rw[Jn,e2];rfl) (by rw[Jn,e3];rfl)
  obtain⟨ab,ac⟩:=bx.bM h1
  exact Den.pairOf (by rw[g7 ab ac];exact h2)
structure aY (n:Nat)(x:Str):Prop where
 bin:jL x
 pos:1<=x.length
 le:x.length<=n
theorem aY.mono {n m:Nat}{x:Str}(h:aY n x)(le:n<=m):aY m x:=⟨h.bin,h.pos,Jq h.le le⟩
theorem jL.app {x y:Str}(h:jL x)(h':jL y):jL (x++y):=fun ch hc=>by
 rw[bh] at hc
 rcases Jj.mp hc with q|q
 ·exact h ch q
 ·exact h' ch q
theorem j8 (cs:List Str):(!PyData.eqv (.list (cs.map PyData.str)) (.list [])) = !cs.isEmpty:=by
 cases cs<;>simp[PyData.eqv,PyData.eqvAll]
noncomputable abbrev sg (x:Str):List Nat:=x.cps.toList
noncomputable def RF (a b:Str):Prop := ¬(sg a <+: sg b)/\¬(sg b <+: sg a)
theorem RF.symm {a b:Str}(h:RF a b):RF b a:=⟨h.2,h.1⟩
theorem jj (x y:Str):sg (x++y)=sg x++sg y:=bh x y
theorem RF.ext {a b u v:Str}(h:RF a b):RF (a++u) (b++v):=by
 refine⟨fun z =>?_,fun z =>?_⟩
 ·rw[jj,jj] at z
  rcases List.prefix_or_prefix_of_prefix ((List.prefix_append _ _).trans z) (List.prefix_append (sg b) (sg v)) with q|q
  ·exact h.1 q
  ·exact h.2 q
 ·rw[jj,jj] at z
  rcases List.prefix_or_prefix_of_prefix ((List.prefix_append _ _).trans z) (List.prefix_append (sg a) (sg u)) with q|q
  ·exact h.2 q
  ·exact h.1 q
noncomputable abbrev fQ (cs:List Str):Prop:=cs.Pairwise RF
theorem fQ.perm {cs ds:List Str}(h:fQ cs)(p:cs.Perm ds):fQ ds:=(p.pairwise_iff fun h=>RF.symm h).mp h
theorem fQ.sub {cs ds:List Str}(h:fQ cs)(s:ds.Sublist cs):fQ ds:=List.Pairwise.sublist s h
noncomputable abbrev s0:Str := "0"
noncomputable abbrev s1:Str := "1"
theorem RF.two (x:Str):RF (x++s0) (x++s1):=by
 have e0:sg (x++s0)=sg x++[48]:=bh x s0
 have e1:sg (x++s1)=sg x++[49]:=bh x s1
 refine⟨fun z =>?_,fun z =>?_⟩
 ·rw[e0,e1] at z
  have:=z.eq_of_length (by simp)
  simp at this
 ·rw[e0,e1] at z
  have:=z.eq_of_length (by simp)
  simp at this
theorem RF.one {x y u:Str}(h:RF y x):RF y (x++u):=by
 have z:=h.ext (u:=Str.empty) (v:=u)
 have e:y++Str.empty=y:=by
  show(⟨y.cps ++ #[]⟩:Str)=y
  simp
 rw[e] at z
 exact z
theorem fQ.split {A B:List Str}{x:Str}(h:fQ (A++x::B)):fQ (A++[x++s0,x++s1]++B):=by
 rw[Uo]
 refine ae.el (J9.mp h) _ ?_
 rintro hA hxB hAB
 obtain⟨hx,hB⟩:=List.pairwise_cons.mp hxB
 refine J9.mpr ⟨hA,?_,fun a ha y hy =>?_⟩
 ·refine J9.mpr ⟨List.pairwise_cons.mpr ⟨fun y hy=>by rw[Jb.mp hy];exact RF.two x,List.pairwise_singleton _ _⟩,hB,fun y hy z hz =>?_⟩
  have q:=(hx z hz).symm
  simp at hy
  rcases hy with rfl|rfl
  ·exact q.one.symm
  ·exact q.one.symm
 ·rcases Jj.mp hy with hy|hy
  ·have q:=hAB a ha x Jp
   simp at hy
   rcases hy with rfl|rfl
   ·exact q.one
   ·exact q.one
  ·exact hAB a ha y (Jo _ hy)
theorem uX {cs:List Str}{k:Nat}{x:Str}(h:cs[k]? = some x):cs=cs.take k++x::cs.drop (k+1):=by
 obtain⟨hk,e⟩:=Ju.mp h
 rw[<-e,<-List.drop_eq_getElem_cons hk,Yj]
theorem sr {cs:List Str}{k:Nat}{x:Str}(h:cs[k]? = some x):cs.Perm (x::cs.eraseIdx k):=by
 have e:=uX h
 have e2:cs.eraseIdx k=cs.take k++cs.drop (k+1):=Ya _ _
 rw[e2]
 conv=>lhs;rw[e]
 exact List.perm_middle
theorem AR:fQ [s0,s1]:=by
 refine List.pairwise_cons.mpr ⟨fun y hy =>?_,List.pairwise_singleton _ _⟩
 rw[Jb.mp hy]
 have:=RF.two Str.empty
 exact this
theorem dN {x y:Str}(h:sg x=sg y):x=y:=by
 cases x;cases y
 simp only[sg] at h
 rw[Array.toList_inj.mp h]
theorem Ck {x:Str}{j:Int}(h0:0<=j)(h1:j<=x.length):sg (Txt.slice x none (some j))=(sg x).take j.toNat:=by
 have e:=PyProof.Rows.slice_closes_to (x:=x) (j:=j) ⟨h0,by rw[<-str_len];exact h1⟩
 rw[eq_of_beq e]
 simp
theorem mG {H:Hp}{b c:Addr}:aw (jB H b c) H:=fun a o e=>(i5 e).1
noncomputable def iJ (K:Jd):Sp:=fun vs H Q _=>bV fun(a:Addr) (ns:List Int)=>vs=[.ref a]/\aB K H a (ns.map V.int)/\ns.length<=63 /\
 ∀(b c:Addr) (H':Hp),Bx H' b c 0->H b=none->H c=none->aw H (jB H' b c)->Q (.ref b) H'
theorem Den.ints {K:Jd}{H:Hp}:∀(ns:List Int),aR K H (ns.map PyData.int) (ns.map V.int)
 | []=>by unfold aR;rfl
 | n::ns=>by
  rw[Ui,Ui]
  unfold aR
  exact⟨_,_,rfl,by unfold Den;rfl,Den.ints ns⟩
theorem jd (ds:List PyData):PyData.eqv (.list ds) (.list [])=ds.isEmpty:=by
 cases ds<;>simp[PyData.eqv,PyData.eqvAll]
theorem pq {n:Nat}(ns:List Int):Sh (n+1) (.list (ns.map PyData.int)):=Sh.list fun d hd=>by
 refine ae.el (Jv.mp hd) _ ?_
 rintro i _ rfl
 exact Sh.int
section
variable {P:Program}{w:World}{K:Jd}{mg:Str->Option Value}{base:Heap}{f:Addr}{fd:FuncData}
theorem eE:bb ["_law_script", "_law_cells"] ["_law_script"] (aF (top fj)):=⟨rfl,rfl,rfl,by decide +kernel,rfl,by decide +kernel,by decide +kernel⟩
theorem sG (F:d5 K "_law_begin" "_law_begin" (top fj) f fd)(T:Nm mg):cf P w K mg base ir 1 f fd ["_law_script"] (iJ K):=by
 refine F.ok eE (fun vs H Q E h =>?_) (fun dS A outer s H vs Q E hr h =>?_)
 ·obtain⟨a,ns,rfl,_⟩:=h
  rfl
 unfold iJ at h
 refine ae.el h _ ?_
 clear h
 rintro a ns rfl hS hlen q
 have hW:=hr.units
 refine⟨_,(ah (aG (i:=1) eE.nd rfl (Or.inl rfl) (dZ (xI K) rfl T.n_list (by rfl) (aa (cD (zP K) (pv 0) dc (cZ ar)) ag)))
  (ah (cR (aI (Am K hW) (pv 1) (dm ag) (aQ _)) (ao (aG (i:=1) eE.nd rfl (Or.inl rfl) (dm (aa ar ag)))) bu)
  (ao (aX (Br (jC aZ (pv 1) (jC aZ ar pB)) rfl rfl (by decide) (by decide)))))),?_⟩
 refine⟨_,rfl,_,rfl,.inl ⟨a,_,rfl,hS,fun r1 H1 n1 =>?_⟩⟩
 refine⟨r1,_,rfl,.inl (aB.of n1.at),fun r2 H2 n2=>gn ?_⟩
 have hc:nN (ns.map V.int) none (some 63)=ns.map V.int:=by
  have e:=zb (ns.map V.int) 63
  rw[Y4 (by rw[Ja];exact hlen)] at e
  exact e
 have zD:H2 r2=some (.lst (ns.map V.int)):=by rw[<-hc];exact n2.at
 have DF:=n1.same.trans n2.same
 dsimp only
 refine bW (t:=nU _ _ _) (fun σ H'=>bV fun(r:Addr) (vn:List Int) =>σ=[some (.ref a),some (.ref r)]/\H' r=some (.lst (vn.map V.int))/\0<vn.length/\vn.length<=64/\H r=none/\aw H H') (fun Nx nx =>?_) ?_
 ·refine⟨_,rfl,by show 0<=sizeLine;decide,fun r3 H3 n3 =>?_⟩
  have d2:Den K H3 (.list (ns.map PyData.int)) (.ref r2):=Den.list (aB.of (n3.same _ _ zD)) (Den.ints ns)
  have d3:Den K H3 (.list []) (.ref r3):=Den.list (aB.of n3.at) (Den.ints [])
  refine .inr ⟨_,_,d2,d3,(pq (n:=1) ns).shaped (by decide),by decide +kernel,_,rfl,?_⟩
  rw[jd]
  refine eK (fun e =>?_) (fun e =>?_)
  ·refine⟨by show 1<=sizeLine;decide,fun r4 H4 n4=>gn (nx _ _ ⟨r4,[_],rfl,n4.at,by decide,by decide,(DF.trans n3.same).free n4.nn,DF.trans (n3.same.trans n4.same)⟩)⟩
  ·refine nx _ _ ⟨r2,ns,rfl,n3.same _ _ zD,?_,by omega,n1.same.free n2.nn,DF.trans n3.same⟩
   cases ns with
   | nil=>exact absurd rfl e
   | cons _ _=>exact Nat.succ_pos _
 intro σ H3
 refine ae.go ?_
 rintro r vn rfl iI l0 l1 hn sm
 intro p H0 n0
 refine⟨_,rfl,?_⟩
 refine⟨n0.at,[(.inr "cells",.ref r),(.inr "turn",.int 0)],rfl,by show 2<=15;decide,fun H6 n6 =>?_⟩
 have HR:r≠p:=ai iI n0.nn
 have hp:H p=none:=sm.free n0.nn
 refine q p r H6 ⟨vn,[],?_,.inl rfl,?_,l0,l1⟩ hp hn (fun b o e =>?_)
 ·rw[n6.at];rfl
 ·rw[n6.ne HR,n0.ne HR];exact iI
 ·have xn:b≠p:=ai e hp
  have KG:b≠r:=ai e hn
  rw[g7 xn KG,n6.ne xn,n0.ne xn]
  exact sm _ _ e
end
theorem aA {α:Type}{l:List α}{i:Nat}(h:i<l.length):l.take (i+1)=l.take i++[l[i]]:=by
 rw[List.take_succ,Jf h];rfl
theorem jF {α:Type}{f: α->Key×V}{k:Key}:∀{l:List α},(∀y∈l,(f y).1≠k)->aq (l.map f) k=none
 | [],_=>rfl
 | y::l,h=>by
  rw[Ui,bG (h y Jp)]
  exact jF fun z hz=>h z (Jo _ hz)
end Z
set_option maxRecDepth 200000
namespace Z
open PySem L2
noncomputable def w5 (K:Jd)(H:Hp)(bk:List (Str×Str))(l:Addr):Prop:=∃vs,aB K H l vs/\aR K H (bk.map fun q =>.tuple [.str q.1,.str q.2]) vs
theorem w5.same {K:Jd}{H H':Hp}{bk:List (Str×Str)}{l:Addr}(h:w5 K H bk l)(s:aw H H'):w5 K H' bk l:=by
 obtain⟨vs,h1,h2⟩:=h
 exact⟨vs,s.seq h1,h2.same s⟩
theorem md {K:Jd}{H:Hp}{bk:List (Str×Str)}{vs:List V}(h:aR K H (bk.map fun q =>.tuple [.str q.1,.str q.2]) vs){i:Nat}(hi:i<bk.length):∃tp,vs[i]? = some (.ref tp)/\iC K H tp [.str bk[i].1,.str bk[i].2]:=by
 obtain⟨v,h1,h2⟩:=h.get (i:=i) (d := .tuple [.str bk[i].1,.str bk[i].2]) (by rw[Jn,Jf hi];rfl)
 refine ae.el (h2.pair) _ ?_
 rintro tp rfl h3
 exact⟨tp,h1,h3⟩
theorem lU {K:Jd}{H:Hp}{bk:List (Str×Str)}{vs:List V}(h:aR K H (bk.map fun q =>.tuple [.str q.1,.str q.2]) vs):vs.length=bk.length:=by rw[h.len,Ja]
theorem mx (a:Nat):∀(k:Nat) (acc:Array Nat),((Jt k #[a]).foldl (· ++ ·) acc).toList=acc.toList++Jt k a
 | 0,acc=>by simp
 | k+1,acc=>by
  rw[U8,List.foldl_cons,mx a k,U8]
  simp
theorem vi (a k:Nat):sg (Txt.mul (⟨#[a]⟩:Str) (k:Int))=Jt k a:=by
 unfold Txt.mul
 split
 ·have:k=0:=by omega
  subst this;rfl
 ·split
  ·rename_i h1 h2
   have:k=1:=by
    have h2:((k:Int)==1)=true:=by
     rcases Bool.or_eq_true_iff.mp h2 with h|h
     ·exact h
     ·exact absurd h (by simp[Str.length])
    have:=eq_of_beq h2
    omega
   subst this;rfl
  ·show((Jt (k:Int).toNat #[a]).foldl (· ++ ·) #[]).toList=_
   rw[mx];simp
structure qm (i:Nat)(x:Str):Prop where
 le:x.length<=8
 last:x.cps.toList.getLast? = some (97+i)
theorem qm.nodup {xs:List Str}(h:∀(i:Nat) x,xs[i]? = some x->qm i x):xs.Nodup:=by
 refine Y8.mpr (Yg.mpr fun i j hi hj fV e =>?_)
 have h1:=(h i _ (Jf hi)).last
 have h2:=(h j _ (Jf hj)).last
 rw[e,h2] at h1
 have h1:=Option.some.inj h1
 omega
theorem jz:∀{xs:List Str},(∀x∈xs,∃ch:Nat,x=⟨#[ch]⟩)->(xs.flatMap (fun p=>p.cps.toList)).length=xs.length/\(xs.map (·.length)).sum=xs.length
 | [],_=>⟨rfl,rfl⟩
 | x::r,h=>by
  obtain⟨ch,rfl⟩:=h x Jp
  obtain⟨h1,h3⟩:=jz fun y hy=>h y (Jo _ hy)
  refine⟨by simp at h1 ⊢;omega,?_⟩
  rw[Ui,List.sum_cons,h3]
  show 1+_=_
  simp;omega
section
variable {P:Program}{w:World}{K:Jd}{mg:Str->Option Value}{base:Heap}{f:Addr}{fd:FuncData}
theorem de:bb ["_law_state", "_law_many", "_law_letters", "_law_found", "_law_k"] ["_law_state", "_law_many"] (aF (top fg)):=⟨rfl,rfl,rfl,by decide +kernel,rfl,by decide +kernel,by decide +kernel⟩
end
noncomputable def wj:Sp:=fun vs H Q _=>xU fun(b c:Addr) (t many most:Int)=>vs=[.ref b,.int many,.int most]/\Bx H b c t/\0<=t/\t<900000/\1<=many/\many<=12/\1<=most/\most<=12 /\
 ∀(cs:List Str) (l:Addr) (H':Hp) (t':Int),cs≠[]->(cs.length:Int)<=many->fQ cs->(∀x∈cs,aY most.toNat x)->Step b c H H' t t' 40->H l=none->H' l=some (.lst (cs.map V.str))->Q (.ref l) H'
theorem xV {n:Nat}(h:1<=n):aY n s0:=⟨fun ch hc =>.inl (by have:ch∈[48]:=hc;simpa using this),by decide +kernel,h⟩
theorem xC {n:Nat}(h:1<=n):aY n s1:=⟨fun ch hc =>.inr (by have:ch∈[49]:=hc;simpa using this),by decide +kernel,h⟩
theorem aY.Ew {n:Nat}{x:Str}(h:aY n x)(hl:x.length<n):aY n (x++s0):=by
 have e:s0.length=1:=by decide +kernel
 exact⟨h.bin.app (xV (n:=1) (by decide)).bin,by rw[dh];omega,by rw[dh];omega⟩
theorem aY.Gr {n:Nat}{x:Str}(h:aY n x)(hl:x.length<n):aY n (x++s1):=by
 have e:s1.length=1:=by decide +kernel
 exact⟨h.bin.app (xC (n:=1) (by decide)).bin,by rw[dh];omega,by rw[dh];omega⟩
theorem qB (xs:List Str)(k:Nat):(xs.map V.str).eraseIdx k=(xs.eraseIdx k).map V.str:=by
 rw[Ya,Ya,Jh,List.map_take,List.map_drop]
theorem qf {cs:List Str}(h:∀x∈cs,jL x):SeqAt.shaped (.list (cs.map PyData.str))=true:=(Sh.list (n:=0) fun d hd=>by
   refine ae.el (Jv.mp hd) _ ?_
   rintro x hx rfl
   exact Sh.str (cC fun ch hc=>by rcases h x hx ch hc with e|e<;>omega)).shaped (by decide)
theorem g9:SeqAt.shaped (.list [])=true:=(Sh.list (n:=0) fun d hd=>by simp at hd).shaped (by decide)
section
variable {P:Program}{w:World}{K:Jd}{mg:Str->Option Value}{base:Heap}{f:Addr}{fd:FuncData}
noncomputable abbrev G1 (b c:Addr)(H:Hp)(t many most mo:Int)(k:Nat)(σ:L2.St)(H':Hp):Prop:=BU fun(cs:List Str) (l:Addr) (t':Int) (x5 x6 x7:Option V) =>σ=[some (.ref b),some (.int many),some (.int most),some (.ref l),some (.int mo),x5,x6,x7,none]/\1<=cs.length/\(cs.length:Int)<=many+mo+1/\fQ cs/\(∀x∈cs,aY most.toNat x)/\Step b c H H' t t' k/\H l=none/\l≠b/\l≠c/\H' l=some (.lst (cs.map V.str))
theorem bI:bb ["_law_state", "_law_many", "_law_most", "_law_leaves", "_law_more", "_law_turn", "_law_some", "_law_leaf", "_law_found"] ["_law_state", "_law_many", "_law_most"] (aF (top fZ)):=⟨rfl,rfl,rfl,by decide +kernel,rfl,by decide +kernel,by decide +kernel⟩
theorem wB (F:d5 K "_law_free" "_law_free" (top fZ) f fd)(T:Nm mg)(aK:Fn P w K mg base 1 "_law_take" ["_law_state", "_law_many"] rB):cf P w K mg base ir 2 f fd ["_law_state", "_law_many", "_law_most"] wj:=by
 refine F.ok bI (fun vs H Q E h =>?_) (fun dS A outer s H vs Q E hr h =>?_)
 ·obtain⟨b,c,t,many,most,rfl,_⟩:=h
  rfl
 unfold wj at h
 refine ae.el h _ ?_
 clear h
 rintro b c t many most rfl bx t0 t1 m0 m1 o0 o1 q
 have hW:=hr.units
 have z1:sizeLine>=10000000:=by decide
 refine⟨_,(ah (aG (i:=3) bI.nd rfl (Or.inl rfl) (dm (aa aZ (aa aZ ag))))
  (ah (aG (i:=4) bI.nd rfl (Or.inl rfl) (bp (aK.mono (by decide)) hr rfl (aa (pv 0) (aa ar ag))))
  (ah (cT PassesOwn.never rfl (dg rfl T.n_range (aa (pv 1) ag)) (ak (i:=5) bI.nd rfl (Or.inl rfl)) (ah (bL (i:=6) bI.nd rfl (Or.inl rfl) rfl (aO (Nc:=["_law_leaf"]) (Fc:=["_law_most"]) (js:=[2])) (iz K (pv 3)) (aD (i:=0) (n:=1) (by decide)) (fun _ _ _ _ _=>(ak (i:=0) (fJ ["_law_leaf", "_law_most"]) rfl (Or.inl rfl))) (fun _ _ _ _ _=>(df (aI pH (az (dP K) rfl T.n_len (by rfl) (aa (pv 0) ag)) (pv 1) (aQ _)))) (fun _ _ _ _ _=>(pv 0)))
  (ao (cR (PW.pt (ja (aI (rS K hW) (pv 6) (dm ag) (aQ _)) (gT (aI pH (az (dP K) rfl T.n_len (by rfl) (aa (pv 3) ag)) (aW eJ (pv 1) (pv 4)) (aQ _))))) (ah (aG (i:=7) bI.nd rfl (Or.inl rfl) (kI (Ar K) (pv 6) (bp (aK.mono (by decide)) hr rfl (aa (pv 0) (aa (az (dP K) rfl T.n_len (by rfl) (aa (pv 6) ag)) ag))) (fun _ _=>rfl)))
  (ah (cY (rA K PySem.F.plainAttrs_list PySem.F.slot_list_remove PySem.F.type_list_remove vM (pv 3) (aa (pv 7) ag)))
  (ao (aG (i:=3) bI.nd rfl (Or.inl rfl) (aW eJ (pv 3) (dm (aa (aW eJ (pv 7) aZ) (aa (aW eJ (pv 7) aZ) ag)))))))) bu))))
  (ah (aG (i:=8) bI.nd rfl (Or.inl rfl) (dm ag))
  (ah (gF PassesOwn.never (PW.pt (ja (aI (rS K hW) (pv 3) (dm ag) (aQ _)) (gT (aI pH (az (dP K) rfl T.n_len (by rfl) (aa (pv 8) ag)) (pv 1) (aQ _))))) (ao (cY (rA K PySem.F.plainAttrs_list PySem.F.slot_list_append PySem.F.type_list_append lK (pv 8) (aa (rA K PySem.F.plainAttrs_list PySem.F.slot_list_pop PySem.F.type_list_pop yW (pv 3) (aa (bp (aK.mono (by decide)) hr rfl (aa (pv 0) (aa (az (dP K) rfl T.n_len (by rfl) (aa (pv 3) ag)) ag))) ag)) ag)))))
  (ao (aX (pv 8)))))))),?_⟩
 refine⟨by show 2<=sizeLine;decide,fun l1 H1 n1=>gn ?_⟩
 have Ic:=(bx.bM n1.nn).1
 have Hq:=(bx.bM n1.nn).2
 have eV:=(Step.refl bx).dy n1
 refine⟨_,rfl,b,c,t,3,rfl,eV.bx,by omega,by omega,by decide,by decide,fun mo H2 mo0 mo1 bz=>gn ?_⟩
 have zV:=bz.old n1.at Ic Hq
 have bz:=eV.trans bz
 dsimp only
 refine bW (t:=lA _ _ _) (G1 b c H t many most mo 13) (fun Nx nx =>?_) ?_
 ·refine⟨_,rfl,_,rfl,by omega,by omega,?_⟩
  refine kN (lo:=0) (n:=many.toNat) (fun i=>G1 b c H t many most mo (1+i)) ⟨[s0,s1],l1,_,_,_,_,rfl,by decide,by show(2:Int)<=many+mo+1;omega,AR,?_,bz.more (by omega),n1.nn,Ic,Hq,zV⟩ ?_ ?_
  ·intro x hx
   simp at hx
   rcases hx with rfl|rfl
   ·exact xV (by omega)
   ·exact xC (by omega)
  ·intro i σ H3 hi
   refine ae.go ?_
   rintro cs l t3 x5 x6 x7 rfl yB hcm fr ok cv hl lb lc fP
   have HF:=cv.ub
   have uD:=cv.le
   have hlen:(cs.map V.str).length=cs.length:=Ja _
   have Ce:∀{k:Nat} (hk:k<cs.length),(cs.map V.str)[k]? = some (.str cs[k]):=fun hk=>by rw[Jn,Jf hk];rfl
   dsimp only
   refine dk (te:=fB _ _ _ _ _ _) (fun v H'=>bV fun(ss:List Str) (p:Addr)=>v = .ref p/\dz H3 p (.lst (ss.map V.str)) H'/\ss.length<=cs.length/\∀x∈ss,x∈cs/\(x.length:Int)<most) (fun Qn qn =>?_) ?_
   ·refine⟨_,rfl,l,rfl,⟨_,aB.of fP⟩,?_⟩
    refine dW (N:=cs.length) (fun k ys H'=>H'=H3/\∃ss:List Str,ys=ss.map V.str/\ss.length<=k/\∀x∈ss,x∈cs/\(x.length:Int)<most) ⟨rfl,[],rfl,Je _,(fun _ h=>nomatch h)⟩ ?_ ?_
    ·intro k ys H4 Ny hk hz_ ny
     refine ae.el hz_ _ ?_
     clear hz_
     rintro rfl ss rfl hss hs
     refine⟨⟨_,_,aB.of fP,Ce hk⟩,by rw[Ja];omega,?_⟩
     rintro x H5 ⟨rfl,hy⟩
     have e:=hy _ (aB.of fP)
     rw[Ce hk] at e;cases e
     have hle:=(ok _ (Jw hk)).le
     refine gn ⟨_,rfl,_,_,rfl,⟨sizeOk (by omega),rfl⟩,_,rfl,_,_,rfl,rfl,_,rfl,eK (fun e =>?_) (fun e=>ny _ _ ⟨rfl,ss,rfl,by omega,hs⟩)⟩
     have e:=of_decide_eq_true e
     refine⟨_,rfl,ny _ _ ⟨rfl,ss++[cs[k]],by rw[Jh];rfl,by rw[Jg];show _+1<=_;omega,fun x hx =>?_⟩⟩
     rcases Jj.mp hx with hx|hx
     ·exact hs x hx
     ·rw[Jb.mp hx];exact⟨Jw hk,e⟩
    ·intro ys H4
     refine ae.go ?_
     rintro rfl ss rfl hss hs
     exact⟨⟨_,aB.of fP,by omega⟩,fun p H5 n5=>qn _ _ ⟨ss,p,rfl,n5,hss,hs⟩⟩
   intro v H4
   refine ae.go ?_
   rintro ss p rfl n4 hss hs
   refine gn ?_
   have rV:=n4.same _ _ fP
   have iw:=cv.dy n4
   have pb:=(cv.bx.bM n4.nn).1
   have pc:=(cv.bx.bM n4.nn).2
   have uF:∀x∈ss,jL x:=fun x hx=>(ok x (hs x hx).1).bin
   refine⟨_,rfl,by show 0<=sizeLine;decide,fun p5 H5 n5 =>.inr ⟨_,_,Den.list (aB.of (n5.same _ _ n4.at)) (Den.strs _),Den.list (aB.of n5.at) (by unfold aR;rfl),qf uF,g9,_,rfl,?_⟩⟩
   rw[j8]
   have rR:=n5.same _ _ rV
   have GK:=n5.same _ _ n4.at
   have cG:=iw.dy n5
   by_cases hss0:ss=[]
   ·have e:(!ss.isEmpty)=false:=by rw[hss0];rfl
    rw[e]
    exact cM (cM ⟨cs,l,_,_,_,_,rfl,yB,hcm,fr,ok,cG.more (by omega),hl,lb,lc,rR⟩)
   have e:(!ss.isEmpty)=true:=by cases ss with|nil=>exact absurd rfl hss0|cons _ _=>rfl
   rw[e]
   have Bi:0<ss.length:=Ul.mpr hss0
   refine eh ⟨_,rfl,_,_,rfl,.inl ⟨_,aB.of rR,rfl⟩,_,rfl,_,rfl,.inl ⟨_,_,rfl,rfl,_,_,rfl,rfl,_,rfl,eK (fun e2 =>?_) (fun e2=>⟨cs,l,_,_,_,_,rfl,yB,hcm,fr,ok,cG.more (by omega),hl,lb,lc,rR⟩)⟩⟩
   have e2:(cs.length:Int)<many+mo:=by have:=of_decide_eq_true e2;rw[hlen] at this;exact this
   have K2:(ss.map V.str).length=ss.length:=Ja _
   refine⟨_,rfl,_,rfl,_,rfl,_,_,rfl,.inl ⟨_,aB.of GK,rfl⟩,b,c,_,_,rfl,cG.bx,by omega,by omega,by omega,by omega,fun r H6 r0 r1 nQ =>?_⟩
   have iI:r.toNat<ss.length:=by omega
   have wC:=nQ.old GK pb pc
   have xj:=nQ.old rR lb lc
   have nQ:=cG.trans nQ
   have Hb:oJ (ss.map V.str) r=some (.str ss[r.toNat]):=lQ r0 (by rw[Jn,Jf iI];rfl)
   have gU:=(hs _ (Jw iI)).1
   have bP:=(hs _ (Jw iI)).2
   generalize ss[r.toNat]=x at Hb gU bP
   refine .inl ⟨p,_,_,_,rfl,rfl,aB.of wC,Hb,gn ?_⟩
   dsimp only
   refine⟨_,rfl,.inl ⟨rfl,_,aB.of xj⟩,_,rfl,l,cs,x,rfl,rfl,xj,gU,fun H7 c7 =>?_⟩
   have o7:=nQ.vC c7 hl lb lc
   have e0:s0.length=1:=by decide +kernel
   have e1:s1.length=1:=by decide +kernel
   refine⟨_,rfl,_,rfl,.inr (.inl ⟨_,_,rfl,rfl,sizeOk (by rw[e0];omega),_,rfl,.inr (.inl ⟨_,_,rfl,rfl,sizeOk (by rw[e1];omega),by show 2<=sizeLine;decide,fun p8 H8 n8 =>?_⟩)⟩)⟩
   have Hd:(cs.erase x).length=cs.length-1:=List.length_erase_of_mem gU
   refine .inr (.inr ⟨l,p8,_,_,rfl,rfl,n8.same _ _ c7.at,n8.at,by rw[Ja,Hd];exact sizeOk (by show _+2<=_;omega),fun p9 H9 n9=>gn ?_⟩)
   have rQ:=o7.dy n8
   have KA:=(rQ.bx.bM n9.nn).1
   have KJ:=(rQ.bx.bM n9.nn).2
   have GS:=ok x gU
   refine⟨cs.erase x++[x++s0,x++s1],p9,_,_,_,_,rfl,by rw[Jg];show _<=_+2;omega,?_,?_,fun y hy =>?_,(rQ.dy n9).more (by omega),rQ.fresh bx n9.nn,KA,KJ,?_⟩
   ·rw[Jg,Hd]
    show(((cs.length-1+2:Nat)):Int)<=_
    omega
   ·have h2:fQ (cs.erase x++x::[]):=fr.perm ((List.perm_cons_erase gU).trans (List.perm_append_singleton x _).symm)
    have h3:=fQ.split h2
    rwa[Ut] at h3
   ·rcases Jj.mp hy with hy|hy
    ·exact ok y (List.mem_of_mem_erase hy)
    ·simp at hy
     rcases hy with rfl|rfl
     ·exact GS.Ew (by omega)
     ·exact GS.Gr (by omega)
   ·rw[n9.at,Jh];rfl
  ·intro σ H3
   refine ae.go ?_
   rintro cs l t3 x5 x6 x7 rfl yB hcm fr ok cv hl lb lc fP
   exact nx _ _ ⟨cs,l,t3,x5,x6,x7,rfl,yB,hcm,fr,ok,cv.more (by omega),hl,lb,lc,fP⟩
 intro σ H3
 refine ae.go ?_
 rintro cs l t3 x5 x6 x7 rfl yB hcm fr ok cv hl lb lc fP
 have HF:=cv.ub
 have uD:=cv.le
 refine⟨by show 0<=sizeLine;decide,fun fp H4 n4=>gn ?_⟩
 dsimp only
 have hf:H fp=none:=cv.fresh bx n4.nn
 have fb:=(cv.bx.bM n4.nn).1
 have fc:=(cv.bx.bM n4.nn).2
 have lf:l≠fp:=fun z=>by have:=n4.nn;rw[<-z,fP] at this;cases this
 refine bW (t:=ig _ _) (fun σ H'=>dR fun(fs:List Str) (t':Int) (x3:Option V) =>σ=[some (.ref b),some (.int many),some (.int most),x3,some (.int mo),x5,x6,x7,some (.ref fp)]/\fs≠[]/\(fs.length:Int)<=many/\fQ fs/\(∀x∈fs,aY most.toNat x)/\Step b c H H' t t' 40/\H' fp=some (.lst (fs.map V.str))) (fun Nx nx =>?_) ?_
 ·refine iM (fun m σ H'=>dR fun(fs ds:List Str) (t':Int)=>m=ds.length /\ σ=[some (.ref b),some (.int many),some (.int most),some (.ref l),some (.int mo),x5,x6,x7,some (.ref fp)]/\(fs++ds).Perm cs/\(fs.length:Int)<=many/\Step b c H H' t t' (13+fs.length)/\H' fp=some (.lst (fs.map V.str))/\H' l=some (.lst (ds.map V.str))) ⟨_,[],cs,t3,rfl,rfl,U0.refl _,by show(0:Int)<=_;omega,(cv.dy n4).more (by show(9:Int)<=9+0;decide),n4.at,n4.same _ _ fP⟩ ?_
  intro m σ H5
  refine ae.go ?_
  rintro fs ds t5 rfl rfl pm hfl cG hf5 rR
  have FE:=cG.ub
  have Fb:=cG.le
  have Lb:fs.length+ds.length=cs.length:=by rw[<-Jg];exact pm.length_eq
  have Kn:∀x∈ds,aY most.toNat x:=fun x hx=>ok x (pm.subset (Ji _ hx))
  have DM:∀x∈fs,aY most.toNat x:=fun x hx=>ok x (pm.subset (Jx _ hx))
  have rT:fQ fs:=(fr.perm pm.symm).sub (List.sublist_append_left _ _)
  have JE:(ds.map V.str).length=ds.length:=Ja _
  have xY:(fs.map V.str).length=fs.length:=Ja _
  have fin:∀{H':Hp},(ds=[]∨¬(fs.length:Int)<many)->Step b c H H' t t5 (13+fs.length)->H' fp=some (.lst (fs.map V.str))->Nx [some (.ref b),some (.int many),some (.int most),some (.ref l),some (.int mo),x5,x6,x7,some (.ref fp)] H':=fun{H'} hend av hf'=>by
   refine nx _ _ ⟨fs,t5,_,rfl,fun z =>?_,hfl,rT,DM,av.more (by omega),hf'⟩
   have hz:fs.length=0:=by rw[z];rfl
   rcases hend with h|h
   ·have:ds.length=0:=by rw[h];rfl
    omega
   ·omega
  refine⟨_,rfl,by show 0<=sizeLine;decide,fun p6 H6 n6 =>.inr ⟨_,_,Den.list (aB.of (n6.same _ _ rR)) (Den.strs _),Den.list (aB.of n6.at) (by unfold aR;rfl),qf (fun x hx=>(Kn x hx).bin),g9,_,rfl,?_⟩⟩
  rw[j8]
  have xj:=n6.same _ _ rR
  have AL:=n6.same _ _ hf5
  have nQ:=cG.dy n6
  by_cases hds:ds=[]
  ·have e:(!ds.isEmpty)=false:=by rw[hds];rfl
   rw[e]
   exact cM (cM (fin (.inl hds) nQ AL))
  have e:(!ds.isEmpty)=true:=by cases ds with|nil=>exact absurd rfl hds|cons _ _=>rfl
  rw[e]
  have JC:0<ds.length:=Ul.mpr hds
  refine eh ⟨_,rfl,_,_,rfl,.inl ⟨_,aB.of AL,rfl⟩,_,rfl,_,_,rfl,rfl,_,rfl,eK (fun e2 =>?_) (fun e2=>fin (.inr fun z=>e2 (decide_eq_true (by rw[xY];exact z))) nQ AL)⟩
  have e2:(fs.length:Int)<many:=by have:=of_decide_eq_true e2;rw[xY] at this;exact this
  refine⟨fun σ' H'=>∃m',m'<ds.length/\_,fun _ _ h=>h,?_⟩
  refine⟨_,rfl,.inl ⟨rfl,_,aB.of AL⟩,_,rfl,.inl ⟨rfl,_,aB.of xj⟩,_,rfl,_,rfl,_,_,rfl,.inl ⟨_,aB.of xj,rfl⟩,b,c,t5,_,rfl,nQ.bx,by omega,by omega,by omega,by omega,fun a H7 a0 a1 o7 =>?_⟩
  have Au:=o7.old xj lb lc
  have Bo:=o7.old AL fb fc
  have o7:=nQ.trans o7
  obtain⟨x,hx⟩:∃x,ds[a.toNat]? = some x:=⟨_,Jf (by omega)⟩
  refine⟨l,_,a,_,rfl,rfl,Au,a0,by omega,by rw[Jn,hx];rfl,fun H8 c8 =>?_⟩
  have CY:H8 fp=some (.lst (fs.map V.str)):=by rw[c8.ne (Ne.symm lf)];exact Bo
  have rQ:=o7.vC c8 hl lb lc
  refine⟨fp,_,_,rfl,rfl,CY,by rw[xY];omega,fun H9 c9 =>?_⟩
  refine⟨(ds.eraseIdx a.toNat).length,by rw[List.length_eraseIdx_of_lt (by omega)];omega,fs++[x],ds.eraseIdx a.toNat,_,rfl,rfl,?_,by rw[Jg];show((fs.length+1:Nat):Int)<=_;omega,(rQ.vC c9 hf fb fc).more (by rw[Jg];show _<=(13:Int)+((fs.length+1:Nat):Int);omega),by rw[c9.at,Jh];rfl,by rw[c9.ne lf,c8.at,qB]⟩
  refine U0.trans ?_ pm
  rw[Uo]
  exact U0.append_left fs (sr hx).symm
 intro σ H5
 refine ae.go ?_
 rintro fs t5 x3 rfl iB hfl rT DM cG hf5
 exact⟨_,rfl,q fs fp H5 t5 iB hfl rT DM cG hf hf5⟩
end
noncomputable def wA:Sp:=fun vs H Q _=>pO fun(b c:Addr) (t many:Int)=>vs=[.ref b,.int many]/\Bx H b c t/\0<=t/\t<1000000/\0<=many/\many<=26 /\
 ∀(xs:List Str) (l:Addr) (H':Hp) (t':Int),(xs.length:Int)=many->xs.Nodup->(∀x∈xs,x.length<=8/\∀ch∈x.cps.toList,ch<=122)->Step b c H H' t t' 300->H l=none->H' l=some (.lst (xs.map V.str))->Q (.ref l) H'
structure DS (i:Nat)(x:Str):Prop extends qm i x where
 sm:∀ch∈x.cps.toList,ch<=122
section
variable {P:Program}{w:World}{K:Jd}{mg:Str->Option Value}{base:Heap}{f:Addr}{fd:FuncData}
theorem vp (F:d5 K "_law_names" "_law_names" (top fg) f fd)(T:Nm mg)(aK:Fn P w K mg base 1 "_law_take" ["_law_state", "_law_many"] rB):cf P w K mg base ir 2 f fd ["_law_state", "_law_many"] wA:=by
 refine F.ok de (fun vs H Q E h =>?_) (fun dS A outer s H vs Q E hr h =>?_)
 ·obtain⟨b,c,t,many,rfl,_⟩:=h
  rfl
 unfold wA at h
 refine ae.el h _ ?_
 clear h
 rintro b c t many rfl bx t0 t1 m0 m1 q
 refine⟨_,(ah (aG (i:=2) de.nd rfl (Or.inr rfl) aZ)
  (ah (aG (i:=3) de.nd rfl (Or.inl rfl) (dm ag))
  (ah (cT PassesOwn.never rfl (dg rfl T.n_range (aa (pv 1) ag)) (ak (i:=4) de.nd rfl (Or.inl rfl)) (ao (cY (rA K PySem.F.plainAttrs_list PySem.F.slot_list_append PySem.F.type_list_append lK (pv 3) (aa (aW eJ (rA K PySem.F.plainAttrs_str PySem.F.slot_str_join PySem.F.type_str_join (CH K) aZ (aa (bR rfl (aO (Nc:=["_law_j"]) (Fc:=["_law_letters", "_law_state"]) (js:=[2,0])) (dg rfl T.n_range (aa (bp (aK.mono (by decide)) hr rfl (aa (pv 0) (aa ar ag))) ag)) (aD (i:=0) (n:=1) (by decide)) (fun _ _ _ _ _=>(ak (i:=0) (fJ ["_law_j", "_law_letters", "_law_state"]) rfl (Or.inl rfl))) (fun _ _ _ _ _=>bJ) (fun _ _ _ _ _=>(kI (Ar K) (pv 1) (bp (aK.mono (by decide)) hr rfl (aa (pv 2) (aa ar ag))) (fun _ _=>rfl)))) ag)) (kI (Ar K) (pv 2) (pv 4) (fun _ _=>rfl))) ag)))))
  (ao (aX (pv 3)))))),?_⟩
 refine gn ⟨by show 0<=sizeLine;decide,fun l H2 n2=>gn ?_⟩
 have hl:H l=none:=n2.nn
 obtain⟨lb,lc⟩:=bx.bM n2.nn
 have bz:Step b c H H2 t t 0:=(Step.refl bx).dy n2
 refine⟨_,rfl,many,rfl,by omega,by omega,?_⟩
 refine kN (lo:=0) (n:=many.toNat) (fun i σ H'=>dR fun(xs:List Str) (t':Int) (x4:Option V) =>σ=[some (.ref b),some (.int many),some (.str Ga),some (.ref l),x4]/\xs.length=i /\
  (∀(j:Nat) x,xs[j]? = some x->DS j x)/\Step b c H H' t t' (10*i)/\H' l=some (.lst (xs.map V.str))) ⟨[],t,_,rfl,rfl,by simp,by simpa using bz,n2.at⟩ ?_ ?_
 ·intro i σ H3 hi
  refine ae.go ?_
  rintro xs t3 x4 rfl AM hx cv fP
  have HF:=cv.ub
  have uD:=cv.le
  refine⟨_,rfl,.inl ⟨rfl,_,aB.of fP⟩,?_⟩
  refine⟨rfl,_,rfl,b,c,t3,8,rfl,cv.bx,by omega,by omega,by decide,by decide,fun m H4 m0 m1 iw =>?_⟩
  have rV:H4 l=some (.lst (xs.map V.str)):=iw.old fP lb lc
  have iw:=(cv.trans iw)
  refine⟨m,rfl,by omega,by omega,?_⟩
  refine bA (N:=m.toNat) (fun k ys H'=>bV fun(zs:List Str) (t':Int)=>ys=zs.map V.str/\zs.length=k/\(∀x∈zs,∃ch:Nat,x=⟨#[ch]⟩/\ch<=122)/\Step b c H H' t t' (10*i+1+k)/\H' l=some (.lst (xs.map V.str))) ⟨[],_,rfl,rfl,(fun _ h=>nomatch h),iw.more (by omega),rV⟩ ?_ ?_
  ·intro k ys H5 Nx hk hz_ nx
   refine ae.el hz_ _ ?_
   clear hz_
   rintro zs t5 rfl BZ hz cG rR
   have FE:=cG.ub
   have Fb:=cG.le
   refine⟨hk,by rw[Ja,BZ];exact Jy (show k<1000 by omega) (by decide),?_⟩
   rintro x H6 ⟨rfl,rfl⟩
   refine⟨_,rfl,_,rfl,b,c,t5,26,rfl,cG.bx,by omega,by omega,by decide,by decide,fun d H7 d0 d1 o7 =>?_⟩
   refine .inr (.inr ⟨_,d,_,rfl,rfl,by decide +kernel,sZ d0 d1,nx _ _ ⟨zs++[⟨#[97+d.toNat]⟩],_,by rw[Jh];rfl,by rw[Jg,BZ];rfl,fun x hx =>?_,(cG.trans o7).more (by omega),o7.old rR lb lc⟩⟩)
   rcases Jj.mp hx with h|h
   ·exact hz x h
   ·exact⟨_,Jb.mp h,by omega⟩
  ·intro ys H5
   refine ae.go ?_
   rintro zs t5 rfl BZ hz cG rR
   refine⟨Je _,fun p hp=>⟨_,p,zs,rfl,rfl,aB.of aE,?_,?_⟩⟩
   ·rw[(jz fun x hx=>by obtain⟨k,e,_⟩:=hz x hx;exact⟨k,e⟩).2]
    show zs.length+zs.length*0<=16777216
    omega
   ·have hn:dz H5 p (.lst (zs.map V.str)) (upd H5 p (.lst (zs.map V.str))):=⟨hp,rfl⟩
    generalize upd H5 p (.lst (zs.map V.str))=H6 at hn ⊢
    have xj:=hn.same _ _ rR
    have nQ:=cG.dy hn
    have Ad:(Txt.join "" zs).length=zs.length:=by
     rw[str_len]
     rw[jq]
     exact(jz fun x hx=>by obtain⟨k,e,_⟩:=hz x hx;exact⟨k,e⟩).1
    have h0:0<=(0:Int)+i:=by omega
    have h1:(0:Int)+i<26:=by omega
    refine⟨_,rfl,_,rfl,.inr (.inr ⟨_,_,_,rfl,rfl,by decide +kernel,sZ h0 h1,.inr (.inl ⟨_,_,rfl,rfl,by rw[len_one,Ad];exact sizeOk (by omega),l,_,_,rfl,rfl,xj,?_,fun H7 c7 =>?_⟩)⟩)⟩
    ·rw[Ja,AM];exact Jy (show i<1000 by omega) (by decide)
    ·refine⟨xs++[Txt.join "" zs++⟨#[97+((0:Int)+i).toNat]⟩],t5,_,rfl,by rw[Jg,AM];rfl,fun j y hy =>?_,?_,?_⟩
     ·by_cases hj:j<xs.length
      ·rw[Uh hj] at hy
       exact hx j y hy
      ·rw[Ua (by omega)] at hy
       have e:j-xs.length=0:=by
        have:=(Ju.mp hy).1
        simp at this
        omega
       rw[e] at hy
       cases hy
       have ej:j=i:=by omega
       subst ej
       refine⟨⟨by rw[dh,len_one];omega,?_⟩,fun ch hc =>?_⟩
       rotate_left
       ·rw[bh] at hc
        rcases Jj.mp hc with hc|hc
        ·rw[jq] at hc
         refine ae.el (List.mem_flatMap.mp hc) _ ?_
         rintro u hu hc
         refine ae.el (hz u hu) _ ?_
         rintro k rfl hk
         have:ch∈[k]:=hc
         rw[Jb.mp this];exact hk
        ·have:ch∈[97+((0:Int)+j).toNat]:=hc
         rw[Jb.mp this];omega
       rw[bh,List.getLast?_append]
       have:((0:Int)+j).toNat=j:=by omega
       rw[this]
       rfl
     ·exact(nQ.vC c7 hl lb lc).more (by omega)
     ·rw[c7.at,Jh]
      rfl
 ·intro σ H3
  refine ae.go ?_
  rintro xs t3 x4 rfl AM hx cv fP
  exact⟨_,rfl,q xs l H3 t3 (by omega) (qm.nodup fun i x h=>(hx i x h).toqm) (fun x Ei=>by obtain⟨j,hj⟩:=U2.mp Ei;exact⟨(hx j x hj).le,(hx j x hj).sm⟩) (cv.more (by omega)) hl fP⟩
end
open PyProof.Rows
structure fT (bk:List (Str×Str)):Prop where
 le:bk.length<=16
 nm:(bk.map (·.1)).Nodup
 cd:∀q∈bk,aY 12 q.2
 nl:∀q∈bk,q.1.length<=8
 sm:∀q∈bk,∀ch∈q.1.cps.toList,ch<=122
theorem fz {x:Str}(p:Nat):sg (Txt.slice x (some (p:Int)) none)=(sg x).drop p:=by
 have key:∀p:Nat,p<=x.length->sg (Txt.slice x (some (p:Int)) none)=(sg x).drop p:=fun p h=>by
  rw[PyProof.Rows.slice_from_eq (b:=(x.length:Int)) (by omega) (by omega) rfl]
  show(((sg x).drop (p:Int).toNat).take ((x.length:Int)-p).toNat).toArray.toList=_
  rw[Yh,Y4]
  ·rfl
  ·rw[Uw,<-str_len];omega
 by_cases h:p<=x.length
 ·exact key p h
 ·have e:Txt.slice x (some (p:Int)) none=Txt.slice x (some ((x.length:Nat):Int)) none:=by
   unfold Txt.slice
   have:PySem.Builtin.Str.strSliceIndices (some (p:Int)) none 1 x.length=PySem.Builtin.Str.strSliceIndices (some ((x.length:Nat):Int)) none 1 x.length:=by
    unfold PySem.Builtin.Str.strSliceIndices
    dsimp only
    congr 1
    all_goals omega
   rw[this]
  rw[e,key _ (Je _),List.drop_of_length_le (Yp (str_len x).symm),List.drop_of_length_le (by have:=str_len x;show(sg x).length<=p;change x.length=(sg x).length at this;omega)]
theorem bj {α:Type}[DecidableEq α]:∀{l m:List α},l.Nodup->(∀x∈l,x∈m)->l.length<=m.length
 | [],_,_,_=>Um _
 | a::l,m,nd,h=>by
  obtain⟨na,vG⟩:=U4.mp nd
  have hm:=h a Jp
  have ih:=bj (l:=l) (m:=m.erase a) vG fun x hx=>by
   have iB:x≠a:=fun z=>na (z▸hx)
   exact(List.mem_erase_of_ne iB).mpr (h x (Jo _ hx))
  rw[List.length_erase_of_mem hm] at ih
  have:0<m.length:=List.length_pos_of_mem hm
  rw[J1]
  omega
theorem gJ {kvs:List (Key×V)}{k:Key}{v:V}(nd:(kvs.map (·.1)).Nodup)(h:(k,v)∈kvs):aq kvs k=some v:=by
 induction kvs with
 | nil=>cases h
 | cons p r ih=>
  rw[Ui,U4] at nd
  rcases Ug.mp h with rfl|h
  ·exact bQ rfl
  ·rw[bG fun z=>nd.1 (by rw[z];exact Jz (f:=(·.1)) h)]
   exact ih nd.2 h
noncomputable def uG (x r:Str)(n:Nat):Prop:=∃a:Nat,1<=a/\a<n/\sg r=(sg x).drop a
noncomputable def ie (B:List (Str×Str))(r:Str):Prop:=∃q∈B,uG q.2 r (sg q.2).length
noncomputable def dA (r:Str):Key×V:=(.inr r,.bl true)
theorem kU {ts:List Str}(r:Str):putK (ts.map dA) (.inr r) (.bl true)=(if r∈ts then ts else ts++[r]).map dA:=by
 by_cases h:r∈ts
 ·rw[if_pos h]
  unfold putK
  rw[if_pos (List.any_eq_true.mpr ⟨dA r,Jz h,decide_eq_true rfl⟩),Ym]
  refine List.map_congr_left fun z _ =>?_
  show(if (dA z).1 = .inr r then ((dA z).1,V.bl true) else dA z)=dA z
  split<;>rfl
 ·rw[if_neg h,cz _ (jF fun y hy e=>h ?_),Jh]
  ·rfl
  ·have e:(Sum.inr y:Key) = .inr r:=e
   rw[<-Sum.inr.inj e];exact hy
theorem ph {ts:List Str}{r:Str}(h:ts.Nodup):(if r∈ts then ts else ts++[r]).Nodup:=by
 by_cases hr:r∈ts
 ·rw[if_pos hr];exact h
 ·rw[if_neg hr];exact pZ h hr
theorem jK {ts:List Str}{r x:Str}:x∈(if r∈ts then ts else ts++[r])↔x∈ts∨x=r:=by
 by_cases hr:r∈ts
 ·rw[if_pos hr]
  exact⟨.inl,fun h=>h.elim id fun e=>e▸hr⟩
 ·rw[if_neg hr,Jj,Jb]
theorem mI {ts:List Str}{r:Str}:(if r∈ts then ts else ts++[r]).length<=ts.length+1:=by
 split
 ·omega
 ·rw[Jg];exact Je _
noncomputable def vA (K:Jd):Sp:=fun vs H Q _=>bV fun(l:Addr) (B:List (Str×Str))=>vs=[.ref l]/\w5 K H B l/\fT B /\
 ∀(ts:List Str) (p:Addr) (H':Hp),aw H H'->H p=none->H' p=some (.lst (ts.map V.str))->ts.Nodup->ts.length<=200->(∀r,r∈ts↔ie B r)->Q (.ref p) H'
section
variable {P:Program}{w:World}{K:Jd}{mg:Str->Option Value}{base:Heap}{f:Addr}{fd:FuncData}
theorem kT:bb ["book"] ["book"] (aF (top eZ)):=⟨rfl,rfl,rfl,by decide +kernel,rfl,by decide +kernel,by decide +kernel⟩
theorem BB (F:d5 K "code_ends" "code_ends" (top eZ) f fd)(T:Nm mg):cf P w K mg base ir 1 f fd ["book"] (vA K):=by
 refine F.ok kT (fun vs H Q E h =>?_) (fun dS A outer s H vs Q E hr h =>?_)
 ·obtain⟨l,B,rfl,_⟩:=h
  rfl
 unfold vA at h
 refine ae.el h _ ?_
 clear h
 rintro l B rfl hB gB q
 have hle:=gB.le
 refine⟨_,(ao (aX (dZ (Cn rfl) rfl T.n_list (by rfl) (aa (rh rfl (aO (Nc:=["name", "code", "at"]) (Fc:=[]) (js:=[])) (iz K (pv 0)) (il (br (aD (i:=0) (n:=3) (by decide)) (br (aD (i:=1) (n:=3) (by decide)) fK aU bT) aU (cu aU bT))) (fun _ _ _ _ _=>(tupK K 2 rfl (aJ (ak (i:=0) (fJ ["name", "code", "at"]) rfl (Or.inl rfl)) (aJ (ak (i:=1) (fJ ["name", "code", "at"]) rfl (Or.inl rfl)) cL)))) (fun _ _ _ _ _=>(gW rfl T.n_range (aa ar (aa (az (dP K) rfl T.n_len (by rfl) (aa (pv 1) ag)) ag)))) (fun _ _ _ _ _=>(ak (i:=2) (fJ ["name", "code", "at"]) rfl (Or.inl rfl))) (fun _ _ _ _ _=>(cD (zP K) (pv 1) (cZ (pv 2)) dc)) (fun _ _ _ _ _=>kb)) ag)))),?_⟩
 obtain⟨vs,hl,hd⟩:=id hB
 have hlen:=lU hd
 refine⟨_,rfl,l,rfl,⟨_,hl⟩,fun D hD =>?_⟩
 refine⟨fun k m H'=>∃ts:List Str,m=B.length-k/\k<=B.length/\aw H H'/\H' D=some (.dK (ts.map dA))/\ts.Nodup/\ts.length<=12*k/\∀r,r∈ts↔ie (B.take k) r,⟨_,[],rfl,Um _,cA hD _,aE,List.nodup_nil,Je _,fun r=>⟨(fun h=>nomatch h),fun⟨q,hq,_⟩=>nomatch hq⟩⟩,?_⟩
 intro k m H1
 refine ae.go ?_
 rintro ts rfl hk sm hD1 nd tl mem
 by_cases bP:k<B.length
 ·refine .inr ⟨?_,?_⟩
  ·refine ae.el (md hd bP) _ ?_
   rintro tp e1 e2
   exact⟨_,_,sm.seq hl,e1⟩
  rintro x H2 ⟨rfl,hy⟩
  refine ae.el (md hd bP) _ ?_
  rintro tp e1 e2
  have e:=hy _ (sm.seq hl)
  rw[e1] at e;cases e
  have hc:=(gB.cd _ (Jw bP)).le
  have Bi:=(gB.cd _ (Jw bP)).pos
  have ck:=aA bP
  generalize B[k]=z at e2 hc Bi ck
  have xF:z.2.length=(sg z.2).length:=str_len _
  refine⟨tp,_,rfl,sm.vK e2,rfl,_,_,rfl,_,_,rfl,rfl,?_⟩
  refine⟨rfl,?_⟩
  have old:∀{r:Str},ie (B.take (k+1)) r↔ie (B.take k) r∨uG z.2 r (sg z.2).length:=fun{r}=>by
   rw[ck]
   refine⟨fun⟨q,hq,h⟩=>?_,fun h =>?_⟩
   ·rcases Jj.mp hq with hq|hq
    ·exact .inl ⟨q,hq,h⟩
    ·rw[Jb.mp hq] at h;exact .inr h
   ·rcases h with ⟨q,hq,h⟩|h
    ·exact⟨q,Jx _ hq,h⟩
    ·exact⟨z,Ji _ (Jb.mpr rfl),h⟩
  refine⟨_,rfl,_,_,rfl,⟨sizeOk (by omega),rfl⟩,1,(z.2.length:Nat),rfl,⟨by omega,by omega,by omega,by omega⟩,?_⟩
  refine⟨fun k2 m2 H'=>∃us:List Str,m2=(z.2.length-1)-k2/\k2<=z.2.length-1/\aw H H'/\H' D=some (.dK (us.map dA))/\us.Nodup/\us.length<=12*k+k2/\∀r,r∈us↔ie (B.take k) r∨uG z.2 r (1+k2),⟨_,ts,rfl,Um _,sm,hD1,nd,tl,fun r=>(mem r).trans ⟨.inl,fun h=>h.elim id fun⟨a,a1,a2,_⟩=>absurd a2 (by omega)⟩⟩,?_⟩
  intro k2 m2 H3
  refine ae.go ?_
  rintro us rfl Av sm3 hD3 nd3 ul mem3
  by_cases h2:k2<z.2.length-1
  ·refine .inr ⟨by show k2<_;omega,?_⟩
   rintro y H4 ⟨rfl,rfl⟩
   refine⟨_,rfl,_,rfl,_,rfl,?_⟩
   dsimp only[fL]
   refine .inr ⟨z.2,rfl,sizeOk (by omega),?_⟩
   have es:=fz (x:=z.2) (1+k2)
   have ei:((1:Int)+(k2:Int))=((1+k2:Nat):Int):=by omega
   rw[ei]
   generalize Txt.slice z.2 (some ((1+k2:Nat):Int)) none=r at es
   refine⟨_,.inr r,hD3,rfl,?_,_,?_,_,rfl,h2,fun b o e =>?_,by rw[kU];exact aE,ph nd3,?_,fun x =>?_⟩
   ·rw[Ja];exact Uc (show us.length<=1000 by omega) (by decide)
   ·omega
   ·rw[aj (ai e hD)];exact sm3 b o e
   ·have:=mI (ts:=us) (r:=r);omega
   ·rw[jK,mem3]
    refine⟨fun h =>?_,fun h =>?_⟩
    ·rcases h with (h|⟨a,a1,a2,a3⟩)|h
     ·exact .inl h
     ·exact .inr ⟨a,a1,by omega,a3⟩
     ·rw[h];exact .inr ⟨1+k2,by omega,by omega,es⟩
    ·rcases h with h|⟨a,a1,a2,a3⟩
     ·exact .inl (.inl h)
     ·by_cases ea:a=1+k2
      ·exact .inr (dN (by rw[a3,es,ea]))
      ·exact .inl (.inr ⟨a,a1,by omega,a3⟩)
  ·have e2:k2=z.2.length-1:=by omega
   subst e2
   refine .inl ⟨by show _<=_;omega,_,?_,us,rfl,bP,sm3,hD3,nd3,by omega,fun r=>(mem3 r).trans ?_⟩
   ·omega
   ·rw[old,show 1+(z.2.length-1)=(sg z.2).length by omega]
 ·have e:k=B.length:=by omega
  subst e
  rw[J0] at mem
  refine .inl ⟨⟨_,sm.seq hl,by omega⟩,?_⟩
  refine⟨D,_,rfl,hD1,fun p H2 n2=>q ts p H2 (sm.trans n2.same) ?_ ?_ nd (by omega) mem⟩
  ·cases e:H p with
   | none=>rfl
   | some o=>have:=n2.nn;rw[sm _ _ e] at this;cases this
  ·have e:((ts.map dA).map fun q=>kV q.1)=ts.map V.str:=by rw[Ym];rfl
   rw[<-e];exact n2.at
end
noncomputable def gQ (a b:Str):V:=if Txt.startswith a b=true then .str (Txt.slice a (some (b.length:Nat)) none) else if Txt.startswith b a=true then .str (Txt.slice b (some (a.length:Nat)) none) else .non
noncomputable def lh:Sp:=fun vs H Q _=>∃a b:Str,vs=[.str a,.str b]/\a.length<=1000000/\b.length<=1000000/\Q (gQ a b) H
section
variable {P:Program}{w:World}{K:Jd}{mg:Str->Option Value}{base:Heap}{f:Addr}{fd:FuncData}
theorem wO:bb ["one", "other"] ["one", "other"] (aF (top h8)):=⟨rfl,rfl,rfl,by decide +kernel,rfl,by decide +kernel,by decide +kernel⟩
theorem vF (F:d5 K "rest_of" "rest_of" (top h8) f fd)(T:Nm mg):cf P w K mg base ir 1 f fd ["one", "other"] lh:=by
 refine F.ok wO (fun vs H Q E h =>?_) (fun dS A outer s H vs Q E hr h =>?_)
 ·obtain⟨a,b,rfl,_⟩:=h
  rfl
 unfold lh at h
 refine ae.el h _ ?_
 clear h
 rintro a b rfl ha hb q
 refine⟨_,(ah (cR (hZ (rA K PySem.F.plainAttrs_str PySem.F.slot_str_startswith PySem.F.type_str_startswith fW (pv 0) (aa (pv 1) ag))) (ao (aX (cD (Ii K) (pv 0) (cZ (az (dP K) rfl T.n_len (by rfl) (aa (pv 1) ag))) dc))) bu)
  (ah (cR (hZ (rA K PySem.F.plainAttrs_str PySem.F.slot_str_startswith PySem.F.type_str_startswith fW (pv 1) (aa (pv 0) ag))) (ao (aX (cD (Ii K) (pv 1) (cZ (az (dP K) rfl T.n_len (by rfl) (aa (pv 0) ag))) dc))) bu)
  (ao (aX d9)))),?_⟩
 unfold gQ at q
 refine⟨_,rfl,rfl,_,rfl,a,b,rfl,rfl,_,rfl,?_⟩
 refine eK (fun c =>?_) (fun c =>?_)
 ·rw[if_pos c] at q
  exact⟨_,rfl,_,rfl,_,_,rfl,⟨sizeOk (Jq hb (by decide)),rfl⟩,_,rfl,.inr ⟨a,rfl,sizeOk (Jq ha (by decide)),q⟩⟩
 ·rw[if_neg c] at q
  refine⟨_,rfl,rfl,_,rfl,b,a,rfl,rfl,_,rfl,?_⟩
  refine eK (fun c =>?_) (fun c =>?_)
  ·rw[if_pos c] at q
   exact⟨_,rfl,_,rfl,_,_,rfl,⟨sizeOk (Jq ha (by decide)),rfl⟩,_,rfl,.inr ⟨b,rfl,sizeOk (Jq hb (by decide)),q⟩⟩
  ·rw[if_neg c] at q
   exact q
end
noncomputable def xg:Sp:=fun vs H Q _=>∃t:Str,vs=[.str t]/\t.length<=100000/\∀z H',dz H z (.tup [.int t.length,.str t]) H'->Q (.ref z) H'
section
variable {P:Program}{w:World}{K:Jd}{mg:Str->Option Value}{base:Heap}{f:Addr}{fd:FuncData}
theorem iH:bb ["text"] ["text"] (aF (top dr)):=⟨rfl,rfl,rfl,by decide +kernel,rfl,by decide +kernel,by decide +kernel⟩
theorem CK (F:d5 K "length_first" "length_first" (top dr) f fd)(T:Nm mg):cf P w K mg base ir 1 f fd ["text"] xg:=by
 refine F.ok iH (fun vs H Q E h =>?_) (fun dS A outer s H vs Q E hr h =>?_)
 ·obtain⟨t,rfl,_⟩:=h
  rfl
 unfold xg at h
 refine ae.el h _ ?_
 clear h
 rintro t rfl ht q
 refine⟨_,(ao (aX (gK (aa (az (dP K) rfl T.n_len (by rfl) (aa (pv 0) ag)) (aa (pv 0) ag))))),?_⟩
 exact⟨_,rfl,_,_,rfl,⟨sizeOk (by omega),rfl⟩,_,rfl,by show 2<=sizeLine;decide,fun p H' n=>q p H' n⟩
end
noncomputable def Bh (q:Str×Str)(x r:Str):Prop:=gQ x q.2 = .str r/\r ≠ ""
theorem uL (x y:Str):gQ x y = .non∨∃r,gQ x y = .str r:=by
 unfold gQ
 split
 ·exact .inr ⟨_,rfl⟩
 ·split
  ·exact .inr ⟨_,rfl⟩
  ·exact .inl rfl
noncomputable abbrev EV:=Addr×(Str×Str)×Str
noncomputable def qc (H:Hp)(z:EV):Prop:=H z.1=some (.tup [.str z.2.1.1,.str z.2.1.2,.str z.2.2])
noncomputable def ue (K:Jd):Sp:=fun vs H Q _=>dR fun(l:Addr) (x:Str) (B:List (Str×Str))=>vs=[.ref l,.str x]/\w5 K H B l/\fT B/\x.length<=12 /\
 ∀(as:List EV) (p:Addr) (H':Hp),aw H H'->H p=none->H' p=some (.lst (as.map fun z=>V.ref z.1))->as.length<=16->(∀z∈as,qc H' z/\z.2.1∈B/\Bh z.2.1 x z.2.2)->(∀q∈B,∀r,Bh q x r->∃z∈as,z.2.1=q/\z.2.2=r)->Q (.ref p) H'
noncomputable def uy (K:Jd):Sp:=fun vs H Q _=>bV fun(l:Addr) (B:List (Str×Str))=>vs=[.ref l]/\w5 K H B l/\fT B /\
 ∀(ts:List Str) (p:Addr) (H':Hp),aw H H'->H p=none->H' p=some (.lst (ts.map V.str))->ts.Nodup->ts.length<=200->(∀r,r∈ts↔ie B r)->Q (.ref p) H'
theorem ie.len {B:List (Str×Str)}(g:fT B){r:Str}(h:ie B r):r.length<=12/\1<=r.length:=by
 obtain⟨q,hq,a,a1,a2,e⟩:=h
 have h1:=(g.cd q hq).le
 have e1:q.2.length=(sg q.2).length:=str_len _
 have e2:r.length=(sg r).length:=str_len _
 rw[e,Uw] at e2
 omega
section
variable {P:Program}{w:World}{K:Jd}{mg:Str->Option Value}{base:Heap}{f:Addr}{fd:FuncData}
theorem oI:bb ["book"] ["book"] (aF (top g4)):=⟨rfl,rfl,rfl,by decide +kernel,rfl,by decide +kernel,by decide +kernel⟩
theorem CJ (F:d5 K "lags_of" "lags_of" (top g4) f fd)(T:Nm mg)(dY:mg "sorted" = none)(nj:Fn P w K mg base 1 "code_ends" ["book"] (vA K))(jH:Fn P w K mg base 1 "length_first" ["text"] xg):cf P w K mg base ir 4 f fd ["book"] (uy K):=by
 refine ae.el (jH.ex) _ ?_
 rintro ky_length_first fdk FK_length_first BK_length_first _ GK_length_first
 refine F.ok oI (fun vs H Q E h =>?_) (fun dS A outer s H vs Q E hr h =>?_)
 ·obtain⟨l,B,rfl,_⟩:=h
  rfl
 unfold uy at h
 refine ae.el h _ ?_
 clear h
 rintro l B rfl hB gB q
 refine⟨_,(ao (aX (j7 (ux K (Aa FK_length_first (hr.mono (by decide)) BK_length_first)) rfl dY (by rfl) (aa (bp (nj.mono (by decide)) hr rfl (aa (pv 0) ag)) ag) (pE (v9 (v := .ref ky_length_first) rfl GK_length_first rfl) rX)))),?_⟩
 refine⟨_,rfl,l,B,rfl,hB,gB,fun ts p H1 s1 Gn mX nd tl mem =>?_⟩
 refine⟨p,ts,rfl,rfl,aB.of mX,fun t ht Hj =>?_,fun us p2 H2 perm _ s2 zF h2 =>?_⟩
 ·have:=((mem t).mp ht).len gB
  exact⟨t,rfl,by omega,fun z H' n=>⟨z,rfl,n⟩⟩
 ·refine q us p2 H2 (s1.trans s2) ?_ h2 (perm.nodup_iff.mpr nd) (by rw[perm.length_eq];exact tl) fun r=>(perm.mem_iff).trans (mem r)
  cases e:H p2 with
  | none=>rfl
  | some o=>rw[s1 _ _ e] at zF;cases zF
theorem eW:bb ["book", "lag", "rests"] ["book", "lag"] (aF (top dQ)):=⟨rfl,rfl,rfl,by decide +kernel,rfl,by decide +kernel,by decide +kernel⟩
theorem Bg (F:d5 K "lags_behind" "lags_behind" (top dQ) f fd)(T:Nm mg)(qV:Fn P w K mg base 1 "rest_of" ["one", "other"] lh):cf P w K mg base ir 2 f fd ["book", "lag"] (ue K):=by
 refine F.ok eW (fun vs H Q E h =>?_) (fun dS A outer s H vs Q E hr h =>?_)
 ·obtain⟨l,x,B,rfl,_⟩:=h
  rfl
 unfold ue at h
 refine ae.el h _ ?_
 clear h
 rintro l x B rfl hB gB hx q
 have hW:=hr.units
 have hle:=gB.le
 refine⟨_,(ah (bL (i:=2) eW.nd rfl (Or.inl rfl) rfl (aO (Nc:=["name", "code"]) (Fc:=["lag"]) (js:=[1])) (iz K (pv 0)) (il (br (aD (i:=0) (n:=2) (by decide)) (br (aD (i:=1) (n:=2) (by decide)) fK aU bT) aU (cu aU bT))) (fun _ _ _ _ _=>(tupK K 2 rfl (aJ (ak (i:=0) (fJ ["name", "code", "lag"]) rfl (Or.inl rfl)) (aJ (ak (i:=1) (fJ ["name", "code", "lag"]) rfl (Or.inl rfl)) cL)))) (fun _ _ _ _ _=>bJ) (fun _ _ _ _ _=>(gK (aa (pv 0) (aa (pv 1) (aa (bp (qV.mono (by decide)) hr rfl (aa (pv 2) (aa (pv 1) ag))) ag))))))
  (ao (aX (bR rfl (aO (Nc:=["name", "code", "rest"]) (Fc:=[]) (js:=[])) (iz K (pv 2)) (il (br (aD (i:=0) (n:=3) (by decide)) (br (aD (i:=1) (n:=3) (by decide)) (br (aD (i:=2) (n:=3) (by decide)) fK aU bT) aU (cu aU bT)) aU (cu aU (cu aU bT)))) (fun _ _ _ _ _=>(tupK K 3 rfl (aJ (ak (i:=0) (fJ ["name", "code", "rest"]) rfl (Or.inl rfl)) (aJ (ak (i:=1) (fJ ["name", "code", "rest"]) rfl (Or.inl rfl)) (aJ (ak (i:=2) (fJ ["name", "code", "rest"]) rfl (Or.inl rfl)) cL))))) (fun _ _ _ _ _=>(df (PW.pt (ja (aI lR (pv 2) d9 (aQ _)) (gT (aI (rS K hW) (pv 2) aZ (aQ _))))))) (fun _ _ _ _ _=>(gK (aa (pv 0) (aa (pv 1) (aa (pv 2) ag))))))))),?_⟩
 obtain⟨vs,hv,hd⟩:=id hB
 have hlen:=lU hd
 have small:∀{n:Nat},n<=1000->n<sizeLine:=fun h=>Uc h (by decide)
 refine dk (te:=fB _ _ _ _ _ _) (fun v H'=>bV fun(p:Addr) (bs:List Addr)=>v = .ref p/\aw H H'/\H p=none/\H' p=some (.lst (bs.map V.ref))/\bs.length=B.length/\∀(i:Nat) (a:Addr) (hi:i<B.length),bs[i]? = some a->H' a=some (.tup [.str B[i].1,.str B[i].2,gQ x B[i].2])) (fun Qn qn =>?_) ?_
 ·refine⟨_,rfl,l,rfl,⟨_,hv⟩,?_⟩
  refine dW (N:=B.length) (fun i ys H'=>∃bs:List Addr,aw H H'/\ys=bs.map V.ref/\bs.length=i/\∀(j:Nat) (a:Addr) (hj:j<B.length),bs[j]? = some a->H' a=some (.tup [.str B[j].1,.str B[j].2,gQ x B[j].2])) ⟨[],aw.refl _,rfl,rfl,fun j a hj h=>nomatch h⟩ ?_ ?_
  ·intro i ys H1 Ny hi hz_ ny
   refine ae.el hz_ _ ?_
   clear hz_
   rintro bs s1 rfl bl hb
   refine ae.el (md hd hi) _ ?_
   rintro tp e1 e2
   refine⟨⟨_,_,s1.seq hv,e1⟩,small (by rw[Ja];omega),?_⟩
   rintro y H2 ⟨rfl,hy⟩
   have e:=hy _ (s1.seq hv)
   rw[e1] at e;cases e
   have hc:=(gB.cd _ (Jw hi)).le
   refine⟨tp,_,rfl,s1.vK e2,rfl,_,_,rfl,_,_,rfl,rfl,?_⟩
   refine⟨_,rfl,_,rfl,_,rfl,_,rfl,x,B[i].2,rfl,by omega,by omega,by show 3<=sizeLine;decide,fun a H3 n3=>ny _ _ ⟨bs++[a],s1.trans n3.same,by rw[Jh];rfl,by rw[Jg,bl];rfl,fun j a' hj h =>?_⟩⟩
   by_cases hji:j<i
   ·rw[Uh (by omega)] at h
    exact n3.same _ _ (hb j a' hj h)
   ·rw[Ua (by omega),bl] at h
    have e0:j-i=0:=by
     cases hz:j-i with
     | zero=>rfl
     | succ k=>rw[hz] at h;cases h
    have ej:j=i:=by omega
    subst ej
    rw[e0] at h
    cases h
    exact n3.at
  ·intro ys H1
   refine ae.go ?_
   rintro bs s1 rfl bl hb
   refine⟨⟨_,s1.seq hv,by omega⟩,fun p H2 n2=>qn _ _ ⟨p,bs,rfl,s1.trans n2.same,?_,n2.at,bl,fun j a hj h=>n2.same _ _ (hb j a hj h)⟩⟩
   cases e:H p with
   | none=>rfl
   | some o=>have:=n2.nn;rw[s1 _ _ e] at this;cases this
 intro v H1
 refine ae.go ?_
 rintro p1 bs rfl s1 vY mX bl hb
 refine gn ?_
 have eO:∀{i:Nat} (hi:i<B.length),∃a,bs[i]? = some a/\(bs.map V.ref)[i]? = some (.ref a):=fun{i} hi=>⟨bs[i]'(by omega),Jf (by omega),by rw[Jn,Jf (by omega)];rfl⟩
 refine⟨_,rfl,p1,rfl,⟨_,aB.of mX⟩,?_⟩
 refine bA (N:=B.length) (fun i ys H'=>∃as:List EV,aw H1 H'/\ys=as.map (fun z=>V.ref z.1)/\as.length<=i/\(∀z∈as,qc H' z/\z.2.1∈B/\Bh z.2.1 x z.2.2)/\∀q∈B.take i,∀r,Bh q x r->∃z∈as,z.2.1=q/\z.2.2=r) ⟨[],aw.refl _,rfl,Je _,(fun z h=>nomatch h),fun q h=>nomatch h⟩ ?_ ?_
 ·intro i ys H2 Ny hi hz_ ny
  refine ae.el hz_ _ ?_
  clear hz_
  rintro as s2 rfl al ha hcv
  refine ae.el (eO hi) _ ?_
  rintro a ea ea'
  refine⟨⟨_,_,aB.of (s2 _ _ mX),ea'⟩,small (by rw[Ja];omega),?_⟩
  rintro y H3 ⟨rfl,hy⟩
  have e:=hy _ (aB.of (s2 _ _ mX))
  rw[ea'] at e;cases e
  have Hz:=s2 _ _ (hb i a hi ea)
  have hm:=Jw hi
  have ck:=aA hi
  generalize B[i]=z at Hz hm ck
  refine⟨a,_,rfl,iC.of Hz,rfl,_,_,rfl,_,_,rfl,_,_,rfl,rfl,?_⟩
  rcases uL x z.2 with e|⟨r,e⟩
  ·rw[e]
   refine⟨_,rfl,.inl ⟨rfl,_,rfl,cM (ny _ _ ⟨as,s2,rfl,by omega,ha,fun q hq r' eU =>?_⟩)⟩⟩
   rw[ck] at hq
   rcases Jj.mp hq with hq|hq
   ·exact hcv q hq r' eU
   ·rw[Jb.mp hq] at eU
    have:=eU.1
    rw[e] at this;cases this
  ·rw[e]
   refine⟨_,rfl,.inl ⟨rfl,_,rfl,eh ?_⟩⟩
   have ed:(!decide (V.str r=V.str (Str.ofString ""))) = !decide (r = ""):=congrArg (! ·) (decide_eq_decide.mpr ⟨fun h=>(by injection h),fun h=>by rw[h]⟩)
   refine⟨_,rfl,.inl ⟨rfl,_,rfl,?_⟩⟩
   rw[ed]
   by_cases er:r = ""
   ·rw[decide_eq_true er]
    refine cM (ny _ _ ⟨as,s2,rfl,by omega,ha,fun q hq r' eU =>?_⟩)
    rw[ck] at hq
    rcases Jj.mp hq with hq|hq
    ·exact hcv q hq r' eU
    ·rw[Jb.mp hq] at eU
     have h1:=eU.1
     rw[e] at h1
     injection h1 with h1
     exact absurd (h1▸er) eU.2
   ·rw[decide_eq_false er]
    refine eh ⟨_,rfl,_,rfl,_,rfl,by show 3<=sizeLine;decide,fun a2 H4 n4=>ny _ _ ⟨as++[(a2,z,r)],s2.trans n4.same,by rw[Jh];rfl,by rw[Jg];exact Nat.succ_le_succ al,fun y hy =>?_,fun q hq r' eU =>?_⟩⟩
    ·rcases Jj.mp hy with hy|hy
     ·obtain⟨h1,h2⟩:=ha y hy
      exact⟨n4.same _ _ h1,h2⟩
     ·rw[Jb.mp hy]
      exact⟨n4.at,hm,e,er⟩
    ·rw[ck] at hq
     rcases Jj.mp hq with hq|hq
     ·refine ae.el (hcv q hq r' eU) _ ?_
      rintro y hy eq ey
      exact⟨y,Jx _ hy,eq,ey⟩
     ·rw[Jb.mp hq] at eU
      have h1:=eU.1
      rw[e] at h1
      injection h1 with h1
      exact⟨(a2,z,r),Ji _ (Jb.mpr rfl),(Jb.mp hq).symm,h1⟩
 ·intro ys H2
  refine ae.go ?_
  rintro as s2 rfl al ha hcv
  rw[J0] at hcv
  refine⟨⟨_,aB.of (s2 _ _ mX),by rw[Ja];omega⟩,fun p3 hp3 =>?_⟩
  have n3:dz H2 p3 (.lst (as.map fun z=>V.ref z.1)) (upd H2 p3 (.lst (as.map fun z=>V.ref z.1))):=⟨hp3,rfl⟩
  refine q as p3 _ ((s1.trans s2).trans n3.same) ?_ n3.at (by omega) (fun z hz=>⟨n3.same _ _ (ha z hz).1,(ha z hz).2⟩) hcv
  cases e:H p3 with
  | none=>rfl
  | some o=>rw[s2 _ _ (s1 _ _ e)] at hp3;cases hp3
end
theorem kg:∀(fs E:List Str),E.Nodup->∃N:List Str,dI (E.map dA) (fs.map dA)=(E++N).map dA/\(E++N).Nodup/\(∀x∈N,x∈fs)/\∀x,x∈E++N↔x∈E∨x∈fs
 | [],E,nd=>⟨[],by rw[Ut];rfl,by rw[Ut];exact nd,(fun x h=>nomatch h),fun x=>by rw[Ut];exact⟨.inl,fun h=>h.elim id fun h=>nomatch h⟩⟩
 | f::fs,E,nd=>by
  refine ae.el (kg fs (if f∈E then E else E++[f]) (ph nd)) _ ?_
  rintro N h1 h2 h3 h4
  have e:∃M,(if f∈E then E else E++[f])++N=E++M/\∀x∈M,x∈f::fs:=by
   by_cases hf:f∈E
   ·rw[if_pos hf];exact⟨N,rfl,fun x hx=>Jo _ (h3 x hx)⟩
   ·rw[if_neg hf,Uo]
    refine⟨[f]++N,rfl,fun x hx =>?_⟩
    rcases Jj.mp hx with hx|hx
    ·rw[Jb.mp hx];exact Jp
    ·exact Jo _ (h3 x hx)
  refine ae.el (e) _ ?_
  rintro M e hM
  rw[e] at h1 h2 h4
  refine⟨M,?_,h2,hM,fun x=>(h4 x).trans ?_⟩
  ·rw[<-h1]
   show dI (putK (E.map dA) (.inr f) (.bl true)) (fs.map dA)=_
   rw[kU]
  ·rw[jK,Ug]
   exact⟨fun h=>h.elim (fun h=>h.elim .inl fun h =>.inr (.inl h)) fun h =>.inr (.inr h),fun h=>h.elim (fun h =>.inl (.inl h)) fun h=>h.elim (fun h =>.inl (.inr h)) .inr⟩
noncomputable def oC (B:List (Str×Str))(E:List Str):Prop:=∀E1 r E2,E=E1++r::E2->∀q∈B,∀r',Bh q r r'->r'∈E1
theorem oC.more {B:List (Str×Str)}{E N:List Str}(h:oC B E)(hN:∀r∈N,∀q∈B,∀r',Bh q r r'->r'∈E):oC B (E++N):=by
 intro E1 r E2 e q hq r' hb
 rcases List.append_eq_append_iff.mp e with ⟨as,h1,h2⟩|⟨cs,h1,h2⟩
 ·rw[h1]
  exact Jx _ (hN r (by rw[h2];exact Ji _ Jp) q hq r' hb)
 ·cases cs with
  | nil=>
   rw[Ut] at h1
   rw[<-h1]
   exact hN r (by rw[<-List.nil_append N,<-h2];exact Jp) q hq r' hb
  | cons c cs=>
   obtain⟨rfl,_⟩:=List.cons.inj h2
   exact h E1 r cs h1 q hq r' hb
theorem nB (E:List Str):(E.map dA).map (·.1)=E.map Sum.inr:=by rw[Ym];rfl
theorem jg {E:List Str}{r:Str}:(aq (E.map dA) (.inr r)).isSome=true↔r∈E:=by
 cases hv:aq (E.map dA) (.inr r) with
 | none=>
  refine⟨(fun h=>nomatch h),fun h=>absurd ?_ (e7 hv)⟩
  rw[nB];exact Jz h
 | some v=>
  refine⟨fun _ =>?_,fun _=>rfl⟩
  have:=iT hv
  rw[nB] at this
  refine ae.el (Jv.mp this) _ ?_
  rintro x hx e
  rw[<-Sum.inr.inj e];exact hx
noncomputable def vB (K:Jd):Sp:=fun vs H Q _=>bV fun(l:Addr) (B:List (Str×Str))=>vs=[.ref l]/\w5 K H B l/\fT B /\
 ∀(d:Addr) (E:List Str) (H':Hp),aw H H'->H d=none->H' d=some (.dK (E.map dA))->E.Nodup->oC B E->(∀r∈E,ie B r)->(∀r,ie B r->r∉E->∃q∈B,∃r',Bh q r r'/\r'∉E)->Q (.ref d) H'
noncomputable def gA (B:List (Str×Str))(H:Hp)(zs:List (Str×Addr)):Prop:=∀z∈zs,∃ls:List Str,H z.2=some (.lst (ls.map V.str))/\ls.length<=16/\∀r,r∈ls ↔ ∃q∈B,Bh q z.1 r
theorem gA.same {B:List (Str×Str)}{H H':Hp}{zs:List (Str×Addr)}(h:gA B H zs)(s:aw H H'):gA B H' zs:=fun z hz=>by
 obtain⟨ls,h1,h2⟩:=h z hz
 exact⟨ls,s _ _ h1,h2⟩
theorem gA.off {B:List (Str×Str)}{H H':Hp}{zs:List (Str×Addr)}{d:Addr}{kvs:List (Key×V)}(h:gA B H zs)(hd:H d=some (.dK kvs))(s:iO H d (.dK kvs) H'∨∃k2,iO H d (.dK k2) H'):gA B H' zs:=fun z hz=>by
 obtain⟨ls,h1,h2⟩:=h z hz
 refine⟨ls,?_,h2⟩
 have ne:z.2≠d:=fun e=>by rw[e,hd] at h1;cases h1
 rcases s with s|⟨k2,s⟩
 ·rw[s.ne ne];exact h1
 ·rw[s.ne ne];exact h1
noncomputable def y8 (z:Str×Addr):Key×V:=(.inr z.1,.ref z.2)
section
variable {P:Program}{w:World}{K:Jd}{mg:Str->Option Value}{base:Heap}{f:Addr}{fd:FuncData}
theorem bo:bb ["book", "left", "laters", "ending", "found"] ["book"] (aF (top dF)):=⟨rfl,rfl,rfl,by decide +kernel,rfl,by decide +kernel,by decide +kernel⟩
theorem A6 (F:d5 K "ending_lags" "ending_lags" (top dF) f fd)(T:Nm mg)(ik:Fn P w K mg base 4 "lags_of" ["book"] (uy K))(dG:Fn P w K mg base 2 "lags_behind" ["book", "lag"] (ue K)):cf P w K mg base ir 5 f fd ["book"] (vB K):=by
 refine F.ok bo (fun vs H Q E h =>?_) (fun dS A outer s H vs Q E hr h =>?_)
 ·obtain⟨l,B,rfl,_⟩:=h
  rfl
 unfold vB at h
 refine ae.el h _ ?_
 clear h
 rintro l B rfl hB gB q
 have hu:=jE hr
 have hle:=gB.le
 have small:∀{n:Nat},n<=1000->n<sizeLine:=fun h=>Uc h (by decide)
 refine⟨_,(ah (aG (i:=1) bo.nd rfl (Or.inl rfl) (bp (ik.mono (by decide)) hr rfl (aa (pv 0) ag)))
  (ah (aG (i:=2) bo.nd rfl (Or.inr rfl) (my rfl (aO (Nc:=["lag"]) (Fc:=["book"]) (js:=[0])) (iz K (pv 1)) (aD (i:=0) (n:=1) (by decide)) (fun _ _ _ _ _=>(ak (i:=0) (fJ ["lag", "book"]) rfl (Or.inl rfl))) (fun _ _ _ _ _=>bJ) (fun _ _ _ _ _=>(pv 0)) (fun _ _ _ _ _=>(bR rfl (aO (Nc:=["name", "code", "later"]) (Fc:=[]) (js:=[])) (iz K (bp (dG.mono (by decide)) hr rfl (aa (pv 1) (aa (pv 0) ag)))) (il (br (aD (i:=0) (n:=3) (by decide)) (br (aD (i:=1) (n:=3) (by decide)) (br (aD (i:=2) (n:=3) (by decide)) fK aU bT) aU (cu aU bT)) aU (cu aU (cu aU bT)))) (fun _ _ _ _ _=>(tupK K 3 rfl (aJ (ak (i:=0) (fJ ["name", "code", "later"]) rfl (Or.inl rfl)) (aJ (ak (i:=1) (fJ ["name", "code", "later"]) rfl (Or.inl rfl)) (aJ (ak (i:=2) (fJ ["name", "code", "later"]) rfl (Or.inl rfl)) cL))))) (fun _ _ _ _ _=>bJ) (fun _ _ _ _ _=>(pv 2))))))
  (ah (aG (i:=3) bo.nd rfl (Or.inr rfl) qr)
  (ah (aG (i:=4) bo.nd rfl (Or.inl rfl) (dZ (xI K) rfl T.n_list (by rfl) (aa (pv 1) ag)))
  (ah (gF PassesOwn.never (mL (pv 4) fun _=>rfl) (ah (bL (i:=4) bo.nd rfl (Or.inl rfl) rfl (aO (Nc:=["lag"]) (Fc:=["ending", "laters"]) (js:=[3,2])) (iz K (pv 1)) (aD (i:=0) (n:=1) (by decide)) (fun _ _ _ _ _=>(ak (i:=0) (fJ ["lag", "ending", "laters"]) rfl (Or.inl rfl))) (fun _ _ _ _ _=>(df (hZ (az (AK K rfl) rfl T.n_all (by rfl) (aa (bR rfl (aO (Nc:=["later"]) (Fc:=["ending"]) (js:=[1])) (iz K (cc hu (pv 2) (pv 0) (fun _ _=>rfl))) (aD (i:=0) (n:=1) (by decide)) (fun _ _ _ _ _=>(ak (i:=0) (fJ ["later", "ending"]) rfl (Or.inl rfl))) (fun _ _ _ _ _=>bJ) (fun _ _ _ _ _=>(tH (lV hu (pv 0) (pv 1))))) ag))))) (fun _ _ _ _ _=>(pv 0)))
  (ah (cY (rA K PySem.F.plainAttrs_dict PySem.F.slot_dict_update PySem.F.type_dict_update xi (pv 3) (aa (my rfl (aO (Nc:=["lag"]) (Fc:=[]) (js:=[])) (iz K (pv 4)) (aD (i:=0) (n:=1) (by decide)) (fun _ _ _ _ _=>(ak (i:=0) (fJ ["lag"]) rfl (Or.inl rfl))) (fun _ _ _ _ _=>bJ) (fun _ _ _ _ _=>(pv 0)) (fun _ _ _ _ _=>kb)) ag)))
  (ao (bL (i:=1) bo.nd rfl (Or.inl rfl) rfl (aO (Nc:=["lag"]) (Fc:=["ending"]) (js:=[3])) (iz K (pv 1)) (aD (i:=0) (n:=1) (by decide)) (fun _ _ _ _ _=>(ak (i:=0) (fJ ["lag", "ending"]) rfl (Or.inl rfl))) (fun _ _ _ _ _=>(df (ic (fE hu (pv 0) (pv 1))))) (fun _ _ _ _ _=>(pv 0)))))))
  (ao (aX (pv 3)))))))),?_⟩
 refine⟨_,rfl,l,B,rfl,hB,gB,fun ts p1 H1 s1 vY mX nd tl mem=>gn ?_⟩
 have eO:∀{xs:List Str} {i:Nat} (hi:i<xs.length),(xs.map V.str)[i]? = some (.str xs[i]):=fun hi=>by rw[Jn,Jf hi];rfl
 dsimp only
 refine dk (te:=lr _ _ _ _ _ _ _) (fun v H'=>bV fun(D:Addr) (zs:List (Str×Addr))=>v = .ref D/\aw H1 H'/\H1 D=none/\H' D=some (.dK (zs.map y8))/\zs.map (·.1)=ts/\gA B H' zs) (fun Qn qn =>?_) ?_
 ·refine⟨_,rfl,p1,rfl,⟨_,aB.of mX⟩,fun D hD =>?_⟩
  refine⟨fun i m H'=>∃zs:List (Str×Addr),m=ts.length-i/\i<=ts.length/\aw H1 H'/\H' D=some (.dK (zs.map y8))/\zs.map (·.1)=ts.take i/\gA B H' zs,⟨_,[],rfl,Um _,cA hD _,aE,rfl,fun z hz=>nomatch hz⟩,?_⟩
  intro i m H2
  refine ae.go ?_
  rintro zs rfl hi s2 hD2 ez lt2
  by_cases bP:i<ts.length
  ·refine .inr ⟨⟨_,_,aB.of (s2 _ _ mX),eO bP⟩,?_⟩
   rintro y H3 ⟨rfl,hy⟩
   have e:=hy _ (aB.of (s2 _ _ mX))
   rw[eO bP] at e;cases e
   refine gn ?_
   dsimp only[lz]
   rw[if_pos rfl]
   have jU:=((mem _).mp (Jw bP)).len gB
   have ck:=aA bP
   have oH:ts[i]∉ts.take i:=fun h=>by
    refine ae.el (Yc.mp h) _ ?_
    rintro j hj ej
    rw[J3] at hj
    rw[List.getElem_take] at ej
    have:=(List.getElem_inj nd).mp ej
    omega
   generalize ts[i]=x at jU ck oH
   refine⟨_,rfl,_,rfl,_,rfl,l,x,B,rfl,hB.same (s1.trans s2),gB,by omega,fun as p4 H4 s4 hp40 hp4 al ha hcv =>?_⟩
   have A5:∀{j:Nat} (hj:j<as.length),(as.map fun z=>V.ref z.1)[j]? = some (.ref as[j].1):=fun hj=>by rw[Jn,Jf hj];rfl
   refine⟨p4,rfl,⟨_,aB.of hp4⟩,?_⟩
   refine bA (N:=as.length) (fun j ys H'=>H'=H4/\ys=((as.take j).map (·.2.2)).map V.str) ⟨rfl,rfl⟩ ?_ ?_
   ·rintro j ys H5 Ny hj ⟨rfl,rfl⟩ ny
    refine⟨⟨_,_,aB.of hp4,A5 hj⟩,small (by rw[Ja,Ja,J3];omega),?_⟩
    rintro y H6 ⟨rfl,hy⟩
    have e:=hy _ (aB.of hp4)
    rw[A5 hj] at e;cases e
    have hz:=(ha _ (Jw hj)).1
    refine⟨_,_,rfl,iC.of hz,rfl,_,_,rfl,_,_,rfl,_,_,rfl,rfl,_,rfl,ny _ _ ⟨rfl,?_⟩⟩
    rw[aA hj,Jh,Jh];rfl
   ·rintro ys H5 ⟨rfl,rfl⟩
    refine⟨⟨_,aB.of hp4,by rw[Ja];exact Je _⟩,fun p6 wC =>?_⟩
    rw[J0]
    have n6:dz H5 p6 (.lst ((as.map (·.2.2)).map V.str)) (upd H5 p6 (.lst ((as.map (·.2.2)).map V.str))):=⟨wC,rfl⟩
    generalize upd H5 p6 (.lst ((as.map (·.2.2)).map V.str))=H6 at n6 ⊢
    have Dt:=s4.trans n6.same
    have zl:zs.length=i:=by
     have:=congrArg Ue ez
     rw[Ja,J3] at this
     omega
    refine⟨zs.map y8,.inr x,Dt _ _ hD2,rfl,small (by rw[Ja];omega),ts.length-(i+1),by omega,zs++[(x,p6)],rfl,bP,fun b o e =>?_,?_,by rw[Jh,ck,ez];rfl,fun z hz =>?_⟩
    ·rw[aj (ai e hD)];exact Dt _ _ (s2 b o e)
    ·rw[cz _ (jF fun y hy e=>oH ?_),Jh]
     ·exact aE
     ·rw[<-ez]
      have e:(Sum.inr y.1:Key) = .inr x:=e
      rw[<-Sum.inr.inj e]
      exact Jz hy
    ·have keep:∀{a:Addr} {o:List V},H6 a=some (.lst o)->upd H6 D (.dK (putK (zs.map y8) (.inr x) (.ref p6))) a=some (.lst o):=fun{a o} e=>by
      rw[aj (fun z=>by rw[z,Dt _ _ hD2] at e;cases e)];exact e
     rcases Jj.mp hz with hz|hz
     ·obtain⟨ls,h1,h2⟩:=lt2 z hz
      exact⟨ls,keep (Dt _ _ h1),h2⟩
     ·rw[Jb.mp hz]
      refine⟨as.map (·.2.2),keep n6.at,by rw[Ja];exact al,fun r=>⟨fun h =>?_,fun⟨q,hq,h⟩=>?_⟩⟩
      ·refine ae.el (Jv.mp h) _ ?_
       rintro y hy rfl
       refine ae.el (ha y hy) _ ?_
       rintro _ h1 h2
       exact⟨_,h1,h2⟩
      ·refine ae.el (hcv q hq r h) _ ?_
       rintro y hy _ e
       exact Jv.mpr ⟨y,hy,e⟩
  ·have e:i=ts.length:=by omega
   subst e
   rw[J0] at ez
   exact .inl ⟨⟨_,aB.of (s2 _ _ mX),by rw[Ja];exact Je _⟩,qn _ _ ⟨D,zs,rfl,s2,hD,hD2,ez,lt2⟩⟩
 intro v H2
 refine ae.go ?_
 rintro D zs rfl s2 hD0 hD2 ez lt2
 refine gn ?_
 refine fun d H3 n3=>gn ?_
 have Hv:=s2.trans n3.same
 have u6:H d=none:=by
  cases e:H d with
  | none=>rfl
  | some o=>have:=n3.nn;rw[s2 _ _ (s1 _ _ e)] at this;cases this
 have dD:D≠d:=ai hD2 n3.nn
 refine⟨_,rfl,p1,_,rfl,.inl (aB.of (Hv _ _ mX)),fun fp0 H4 n4=>gn ?_⟩
 have GV:=Hv.trans n4.same
 rw[show(List.set _ _ _:L2.St)=[some (.ref l),some (.ref p1),some (.ref D),some (.ref d),some (.ref fp0)] from rfl]
 have D5:∀{r:Str},r∈ts->∃a,aq (zs.map y8) (.inr r)=some (.ref a)/\(r,a)∈zs:=fun{r} hr=>by
  rw[<-ez] at hr
  refine ae.el (Jv.mp hr) _ ?_
  rintro z hz rfl
  refine⟨z.2,gJ ?_ (Jv.mpr ⟨z,hz,rfl⟩),hz⟩
  have:(zs.map y8).map (·.1)=(zs.map (·.1)).map Sum.inr:=by rw[Ym,Ym];rfl
  rw[this,ez]
  exact Y8.mpr (List.pairwise_map.mpr ((Y8.mp nd).imp fun h e=>h (Sum.inr.inj e)))
 dsimp only
 let J:Nat->L2.St->Hp->Prop:=fun m σ H'=>xU fun(lp fp:Addr) (left fs E:List Str) =>σ=[some (.ref l),some (.ref lp),some (.ref D),some (.ref d),some (.ref fp)]/\m=2*left.length+(if fs=[] then 0 else 1)/\aw H H'/\H' lp=some (.lst (left.map V.str))/\H' fp=some (.lst (fs.map V.str))/\fs.length<=200/\left.length<=200/\H' d=some (.dK (E.map dA))/\H' D=some (.dK (zs.map y8))/\gA B H' zs/\E.Nodup/\oC B E/\(∀r∈E,ie B r)/\(∀r∈left,ie B r/\r∉E)/\(∀r,ie B r->r∈left∨r∈E)/\(fs=[]->∀r∈left,∃q∈B,∃r',Bh q r r'/\r'∉E)
 refine bW (t:=ig _ _) (fun σ H'=>dR fun(lp fp:Addr) (E:List Str) =>σ=[some (.ref l),some (.ref lp),some (.ref D),some (.ref d),some (.ref fp)]/\aw H H'/\H' d=some (.dK (E.map dA))/\E.Nodup/\oC B E/\(∀r∈E,ie B r)/\∀r,ie B r->r∉E->∃q∈B,∃r',Bh q r r'/\r'∉E) (fun Nx nx =>?_) ?_
 ·refine iM J ⟨_,p1,fp0,ts,ts,[],rfl,rfl,s1.trans GV,GV _ _ mX,n4.at,tl,tl,n4.same _ _ n3.at,n4.same _ _ (n3.same _ _ hD2),(lt2.same n3.same).same n4.same,List.nodup_nil,(fun E1 r E2 e=>by cases E1<;>cases e),(fun r h=>nomatch h),fun r h=>⟨(mem r).mp h,(fun h=>nomatch h)⟩,fun r h =>.inl ((mem r).mpr h),fun h r hr=>by rw[h] at hr;cases hr⟩ ?_
  intro m σ H5
  refine ae.go ?_
  rintro lp fp left fs E rfl rfl s5 hlp hfp fl ll vb hD5 lt5 nd5 ord e1 e2 e3 e4
  have Kb:D≠d:=dD
  refine⟨_,rfl, !(fs.map V.str).isEmpty,.inl ⟨_,aB.of hfp,rfl⟩,?_⟩
  by_cases hfs:fs=[]
  ·rw[hfs]
   exact cM (nx _ _ ⟨lp,fp,E,rfl,s5,vb,nd5,ord,e1,fun r hr hn=>e4 hfs r ((e3 r hr).resolve_right hn)⟩)
  ·have eT:(!(fs.map V.str).isEmpty)=true:=by cases fs with|nil=>exact absurd rfl hfs|cons _ _=>rfl
   rw[eT,if_neg hfs]
   refine eh ⟨fun σ' H'=>∃m',m'<2*left.length+1/\J m' σ' H',fun _ _ h=>h,?_⟩
   have Dv:∀{H':Hp} {r:Str},H' d=some (.dK (E.map dA))->cN H' d (.str r) (aq (E.map dA) (.inr r)):=fun h =>.inl ⟨_,.inr _,.inl h,rfl,rfl⟩
   refine dk (te:=fB _ _ _ _ _ _) (fun v H'=>bV fun(xt:Addr) (lY:List Str)=>v = .ref xt/\aw H5 H'/\H5 xt=none/\H' xt=some (.lst (lY.map V.str))/\lY.length<=left.length/\∀r,r∈lY↔r∈left/\∀q∈B,∀r',Bh q r r'->r'∈E) (fun Qn qn =>?_) ?_
   ·refine⟨_,rfl,lp,rfl,⟨_,aB.of hlp⟩,?_⟩
    refine dW (N:=left.length) (fun i ys H'=>∃us:List Str,aw H5 H'/\ys=us.map V.str/\us.length<=i/\∀r,r∈us↔r∈left.take i/\∀q∈B,∀r',Bh q r r'->r'∈E) ⟨[],aw.refl _,rfl,Je _,fun r=>⟨(fun h=>nomatch h),fun h=>nomatch h.1⟩⟩ ?_ ?_
    ·intro i ys H6 Ny hi hz_ ny
     refine ae.el hz_ _ ?_
     clear hz_
     rintro us s6 rfl ul um
     refine⟨⟨_,_,aB.of (s6 _ _ hlp),eO hi⟩,small (by rw[Ja];omega),?_⟩
     rintro y H7 ⟨rfl,hy⟩
     have e:=hy _ (aB.of (s6 _ _ hlp))
     rw[eO hi] at e;cases e
     have jU:=(e2 _ (Jw hi)).1
     have ck:=aA hi
     generalize left[i]=x at jU ck
     refine ae.el (D5 ((mem x).mpr jU)) _ ?_
     rintro a va hza
     refine ae.el ((lt5.same s6) _ hza) _ ?_
     rintro ls h1 h2 h3
     refine gn ⟨_,rfl,_,rfl,D,.ref a,rfl,.inl ⟨_,.inr x,.inl (s6 _ _ hD5),rfl,va.symm⟩,a,rfl,⟨_,aB.of h1⟩,?_⟩
     refine bA (N:=ls.length) (fun j ys H'=>H'=H7/\ys=((ls.take j).map fun r=>(aq (E.map dA) (.inr r)).isSome).map V.bl) ⟨rfl,rfl⟩ ?_ ?_
     ·rintro j ys H8 Nz hj ⟨rfl,rfl⟩ nz
      refine⟨⟨_,_,aB.of h1,eO hj⟩,small (by rw[Ja,Ja,J3];omega),?_⟩
      rintro y H9 ⟨rfl,hy⟩
      have e:=hy _ (aB.of h1)
      rw[eO hj] at e;cases e
      refine gn ⟨_,rfl,_,rfl,d,aq (E.map dA) (.inr ls[j]),rfl,Dv (s6 _ _ vb),nz _ _ ⟨rfl,?_⟩⟩
      rw[aA hj,Jh,Jh];rfl
     ·rintro ys H8 ⟨rfl,rfl⟩
      refine⟨⟨_,aB.of h1,by rw[Ja];exact Je _⟩,fun p9 qi =>?_⟩
      rw[J0]
      have n9:dz H8 p9 (.lst ((ls.map fun r=>(aq (E.map dA) (.inr r)).isSome).map V.bl)) (upd H8 p9 (.lst ((ls.map fun r=>(aq (E.map dA) (.inr r)).isSome).map V.bl))):=⟨qi,rfl⟩
      generalize upd H8 p9 (.lst ((ls.map fun r=>(aq (E.map dA) (.inr r)).isSome).map V.bl))=H9 at n9 ⊢
      refine⟨p9,_,rfl,aB.of n9.at,_,rfl,?_⟩
      have tT:(ls.map fun r=>(aq (E.map dA) (.inr r)).isSome).all id=true ↔ ∀q∈B,∀r',Bh q x r'->r'∈E:=by
       rw[List.all_map,List.all_eq_true]
       exact⟨fun h q hq r' hb=>jg.mp (h r' ((h3 r').mpr ⟨q,hq,hb⟩)),fun h r' iI=>by
        refine ae.el ((h3 r').mp iI) _ ?_
        rintro q hq hb
        exact jg.mpr (h q hq r' hb)⟩
      have Hc:∀{r:Str},(r∈left.take (i+1)/\∀q∈B,∀r',Bh q r r'->r'∈E)↔(r∈us∨(r=x/\∀q∈B,∀r',Bh q r r'->r'∈E)):=fun{r}=>by
       rw[ck,Jj,Jb,um]
       exact⟨fun⟨h,g⟩=>h.elim (fun h =>.inl ⟨h,g⟩) fun h =>.inr ⟨h,g⟩,fun h=>h.elim (fun h=>⟨.inl h.1,h.2⟩) fun h=>⟨.inr h.1,h.2⟩⟩
      refine eK (fun c=>⟨_,rfl,ny _ _ ⟨us++[x],s6.trans n9.same,by rw[Jh];rfl,by rw[Jg];exact Nat.succ_le_succ ul,fun r =>?_⟩⟩) (fun c=>ny _ _ ⟨us,s6.trans n9.same,rfl,by omega,fun r =>?_⟩)
      ·rw[Hc,Jj,Jb]
       exact or_congr Iff.rfl ⟨fun h=>⟨h,h▸tT.mp c⟩,fun h=>h.1⟩
      ·rw[Hc]
       exact⟨.inl,fun h=>h.elim id fun h=>absurd (tT.mpr (h.1▸h.2)) c⟩
    ·intro ys H6
     refine ae.go ?_
     rintro us s6 rfl ul um
     rw[J0] at um
     refine⟨⟨_,aB.of (s6 _ _ hlp),by rw[Ja];exact Je _⟩,fun p7 H7 n7=>qn _ _ ⟨p7,us,rfl,s6.trans n7.same,?_,n7.at,ul,um⟩⟩
     cases e:H5 p7 with
     | none=>rfl
     | some o=>have:=n7.nn;rw[s6 _ _ e] at this;cases this
   intro v H6
   refine ae.go ?_
   rintro xt lY rfl s6 hfp0 hfp' fl' fm'
   refine gn ?_
   have xu:=s6 _ _ vb
   have KR:xt≠d:=fun z=>by rw[z,xu] at hfp';cases hfp'
   refine⟨_,rfl,.inr (.inr (.inl ⟨rfl,.inl ⟨_,xu⟩⟩)),?_⟩
   refine⟨_,rfl,xt,rfl,⟨_,aB.of hfp'⟩,fun D2 hD2' =>?_⟩
   have KY:d≠D2:=fun z=>by rw[z,hD2'] at xu;cases xu
   have K1:H5 D2=none:=by
    cases e:H5 D2 with
    | none=>rfl
    | some o=>rw[s6 _ _ e] at hD2';cases hD2'
   refine⟨fun i m H'=>∃us:List Str,m=lY.length-i/\i<=lY.length/\aw H6 H'/\H' D2=some (.dK (us.map dA))/\us.length<=i/\∀r,r∈us↔r∈lY.take i,⟨_,[],rfl,Um _,cA hD2' _,aE,Je _,fun r=>⟨(fun h=>nomatch h),fun h=>nomatch h⟩⟩,?_⟩
   intro i m H7
   refine ae.go ?_
   rintro us rfl hi s7 hD7 ul um
   by_cases bP:i<lY.length
   ·refine .inr ⟨⟨_,_,aB.of (s7 _ _ hfp'),eO bP⟩,?_⟩
    rintro y H8 ⟨rfl,hy⟩
    have e:=hy _ (aB.of (s7 _ _ hfp'))
    rw[eO bP] at e;cases e
    refine gn ?_
    dsimp only[lz]
    rw[if_pos rfl]
    have ck:=aA bP
    generalize lY[i]=x at ck
    refine⟨_,rfl,us.map dA,.inr x,hD7,rfl,small (by rw[Ja];omega),lY.length-(i+1),by omega,_,rfl,bP,fun b o e =>?_,by rw[kU];exact aE,?_,fun r =>?_⟩
    ·rw[aj (ai e hD2')];exact s7 b o e
    ·have:=mI (ts:=us) (r:=x);omega
    ·rw[jK,ck,Jj,Jb,um]
   have ei:i=lY.length:=by omega
   subst ei
   rw[J0] at um
   refine .inl ⟨⟨_,aB.of (s7 _ _ hfp'),by rw[Ja];exact Je _⟩,?_⟩
   have vw:=s7 _ _ xu
   have El:E.length<=200:=Jq (bj nd5 fun x hx=>(mem x).mpr (e1 x hx)) tl
   refine⟨d,D2,_,_,rfl,rfl,KY,vw,hD7,by rw[Ja,Ja];exact sizeOk (by omega),?_⟩
   refine ae.el (kg us E nd5) _ ?_
   rintro N h1 h2 hN h3
   have Ba:oC B (E++N):=ord.more fun r hr=>((fm' r).mp (List.mem_of_mem_take (i:=lY.length) (by rw[J0];exact(um r).mp (hN r hr)))).2
   rw[h1]
   generalize E++N=E' at h1 h2 h3 Ba
   have c8:iO H7 d (.dK (E'.map dA)) (upd H7 d (.dK (E'.map dA))):=⟨rfl⟩
   generalize upd H7 d (.dK (E'.map dA))=H8 at c8
   have Du:∀x,x∈E'↔x∈E∨x∈lY:=fun x=>by rw[h3,um]
   have zo:=s6.trans s7
   have keep:∀{a:Addr} {o:HO},a≠d->H5 a=some o->H8 a=some o:=fun ne e=>by rw[c8.ne ne];exact zo _ _ e
   have Kh:lp≠d:=fun z=>by rw[z,vb] at hlp;cases hlp
   have lI:=keep Kh hlp
   have KW:=keep Kb hD5
   have Kk:aw H H8:=fun b o e=>by rw[c8.ne (ai e u6)];exact zo _ _ (s5 b o e)
   have IV:gA B H8 zs:=(lt5.same zo).off vw (.inr ⟨_,c8⟩)
   have FN:H8 xt=some (.lst (lY.map V.str)):=by rw[c8.ne KR];exact s7 _ _ hfp'
   dsimp only
   refine yC (te:=fB _ _ _ _ _ _) (fun v H'=>∃lp',v = .ref lp'/\dz H8 lp' (.lst ((left.filter fun r => !(aq (E'.map dA) (.inr r)).isSome).map V.str)) H') (fun Qn qn =>?_) ?_
   ·refine⟨_,rfl,lp,rfl,⟨_,aB.of lI⟩,?_⟩
    refine dW (N:=left.length) (fun i ys H'=>H'=H8/\ys=((left.take i).filter fun r => !(aq (E'.map dA) (.inr r)).isSome).map V.str) ⟨rfl,rfl⟩ ?_ ?_
    ·rintro i ys H9 Ny gD ⟨rfl,rfl⟩ ny
     refine⟨⟨_,_,aB.of lI,eO gD⟩,?_,?_⟩
     ·rw[Ja]
      have h1:=Yk (fun r => !(aq (E'.map dA) (.inr r)).isSome) (left.take i)
      rw[J3] at h1
      exact small (by omega)
     rintro y H10 ⟨rfl,hy⟩
     have e:=hy _ (aB.of lI)
     rw[eO gD] at e;cases e
     have ck:=aA gD
     generalize left[i]=x at ck
     cases hv:aq (E'.map dA) (.inr x) with
     | none=>
      refine gn ⟨_,rfl,_,rfl,d,none,rfl,.inl ⟨_,.inr x,.inl c8.at,rfl,hv.symm⟩,_,rfl,eh ⟨_,rfl,ny _ _ ⟨rfl,?_⟩⟩⟩
      rw[ck,List.filter_append,Y6,hv,if_pos (by rfl),Jh];rfl
     | some v=>
      refine gn ⟨_,rfl,_,rfl,d,some v,rfl,.inl ⟨_,.inr x,.inl c8.at,rfl,hv.symm⟩,_,rfl,cM (ny _ _ ⟨rfl,?_⟩)⟩
      rw[ck,List.filter_append,Y6,hv,if_neg (fun z=>nomatch z),List.filter_nil,Ut]
    ·rintro ys H9 ⟨rfl,rfl⟩
     refine⟨⟨_,aB.of lI,by rw[Ja];exact Je _⟩,fun p H' n=>qn _ _ ⟨p,rfl,?_⟩⟩
     rw[J0] at n
     exact n
   intro v H9
   refine ae.go ?_
   rintro lp' rfl n9
   refine gn ?_
   have mN:∀r,r∈left.filter (fun r => !(aq (E'.map dA) (.inr r)).isSome)↔r∈left/\r∉E':=fun r=>by
    rw[Y9]
    refine and_congr Iff.rfl ⟨fun h z =>?_,fun h =>?_⟩
    ·rw[jg.mpr z] at h;cases h
    ·cases hs:(aq (E'.map dA) (.inr r)).isSome with
     | false=>rfl
     | true=>exact absurd (jg.mp hs) h
   have Lc:=Yk (fun r => !(aq (E'.map dA) (.inr r)).isSome) left
   refine⟨2*(left.filter fun r => !(aq (E'.map dA) (.inr r)).isSome).length+(if lY=[] then 0 else 1),?_,lp',xt,_,lY,E',rfl,rfl,Kk.trans n9.same,n9.at,n9.same _ _ FN,by omega,by omega,n9.same _ _ c8.at,n9.same _ _ KW,IV.same n9.same,h2,Ba,fun r hr =>?_,fun r hr =>?_,fun r hr =>?_,fun hE r hr =>?_⟩
   ·by_cases hf:lY=[]
    ·rw[if_pos hf];omega
    ·rw[if_neg hf]
     obtain⟨x,hx⟩:=List.exists_mem_of_ne_nil _ hf
     have:(left.filter fun r => !(aq (E'.map dA) (.inr r)).isSome).length<left.length:=by
      refine List.length_filter_lt_length_iff_exists.mpr ⟨x,((fm' x).mp hx).1,?_⟩
      rw[jg.mpr ((Du x).mpr (.inr hx))];decide
     omega
   ·rcases(Du r).mp hr with h|h
    ·exact e1 r h
    ·exact(e2 r ((fm' r).mp h).1).1
   ·obtain⟨a1,a2⟩:=(mN r).mp hr
    exact⟨(e2 r a1).1,a2⟩
   ·rcases e3 r hr with h|h
    ·by_cases z:r∈E'
     ·exact .inr z
     ·exact .inl ((mN r).mpr ⟨h,z⟩)
    ·exact .inr ((Du r).mpr (.inl h))
   ·obtain⟨a1,a2⟩:=(mN r).mp hr
    have uK:¬ ∀q∈B,∀r',Bh q r r'->r'∈E:=fun h=>by
     have:=(fm' r).mpr ⟨a1,h⟩
     rw[hE] at this;cases this
    refine Classical.byContradiction fun z=>uK fun q hq r' hb =>?_
    refine Classical.byContradiction fun hn=>z ⟨q,hq,r',hb,fun h =>?_⟩
    rcases(Du r').mp h with h|h
    ·exact hn h
    ·rw[hE] at h;cases h
 intro σ H5
 refine ae.go ?_
 rintro lp fp E rfl s5 vb nd5 ord e1 e2
 exact⟨_,rfl,q d E H5 s5 u6 vb nd5 ord e1 e2⟩
end
noncomputable def pY:Sp:=fun vs H Q _=>dR fun(b c:Addr) (t:Int)=>vs=[.ref b]/\Bx H b c t/\0<=t/\t<900000 /\
 ∀(m o:Int) (tp:Addr) (H':Hp) (t':Int),1<=m->m<=12->1<=o->o<=12->Step b c H H' t t' 3->H' tp=some (.tup [.int m,.int o])->Q (.ref tp) H'
noncomputable def qe (K:Jd):Sp:=fun vs H Q _=>dR fun(b c:Addr) (t:Int)=>vs=[.ref b]/\Bx H b c t/\0<=t/\t<800000 /\
 ∀(bk:List (Str×Str)) (v:V) (H':Hp) (t':Int),fT bk->tI K (jB H' b c) bk v->Step b c H H' t t' 400->Q v H'
theorem mU (a:Array Nat):∀(k:Nat) (acc:Array Nat),((Jt k a).foldl (· ++ ·) acc).toList=acc.toList++(Jt k a.toList).flatten
 | 0,acc=>by simp
 | k+1,acc=>by
  rw[U8,List.foldl_cons,mU a k,U8]
  simp
theorem BL {x:Str}(hx:1<=x.length):sg (Txt.mul x 8)=(Jt 8 (sg x)).flatten:=by
 unfold Txt.mul
 rw[if_neg (by decide),if_neg (by intro h;rcases Bool.or_eq_true_iff.mp h with h|h;exact absurd h (by decide);have:=eq_of_beq h;omega)]
 show((Jt 8 x.cps).foldl (· ++ ·) #[]).toList=_
 rw[mU];simp
theorem nv {x:Str}(hx:1<=x.length):(Txt.mul x 8).length=8*x.length:=by
 rw[str_len,str_len]
 show(sg (Txt.mul x 8)).length=8*(sg x).length
 rw[BL hx,List.length_flatten,List.map_replicate,List.sum_replicate_nat]
theorem Gj {x:Str}(hx:aY 12 x){o:Int}(o0:1<=o)(o1:o<=12):aY 12 (Txt.slice (Txt.mul x 8) none (some o)):=by
 have hl:=nv hx.pos
 have hp:=hx.pos
 obtain⟨o',o0',ol,oe,e⟩:∃o':Int,1<=o'/\o'<=12/\o'<=(Txt.mul x 8).length/\Txt.slice (Txt.mul x 8) none (some o)=Txt.slice (Txt.mul x 8) none (some o'):=by
  by_cases h:o<=(Txt.mul x 8).length
  ·exact⟨o,o0,o1,h,rfl⟩
  ·refine⟨((Txt.mul x 8).length:Nat),by omega,by omega,Yb _,?_⟩
   unfold Txt.slice
   have:PySem.Builtin.Str.strSliceIndices none (some o) 1 (Txt.mul x 8).length=PySem.Builtin.Str.strSliceIndices none (some (((Txt.mul x 8).length:Nat):Int)) 1 (Txt.mul x 8).length:=by
    unfold PySem.Builtin.Str.strSliceIndices
    dsimp only
    congr 1
    all_goals omega
   rw[this]
 rw[e]
 have hs:=Ck (x:=Txt.mul x 8) (j:=o') (by omega) oe
 have hn:(Txt.slice (Txt.mul x 8) none (some o')).length=o'.toNat:=by
  rw[str_len]
  show(sg _).length=_
  rw[hs,J3]
  have:(sg (Txt.mul x 8)).length=(Txt.mul x 8).length:=(str_len _).symm
  omega
 refine⟨fun ch hc =>?_,by omega,by omega⟩
 have hc:ch∈sg (Txt.slice (Txt.mul x 8) none (some o')):=hc
 rw[hs,BL hx.pos] at hc
 have hc:=List.mem_of_mem_take hc
 obtain⟨l,sT,hm⟩:=List.mem_flatten.mp hc
 rw[(List.mem_replicate.mp sT).2] at hm
 exact hx.bin ch hm
theorem lL {α:Type}[DecidableEq α]{f:Nat -> α}{k: α}:∀{i:Nat},k∈bB f i->∃j,j<i/\f j=k
 | 0,h=>by simp[bB] at h
 | i+1,h=>by
  unfold bB oneMore at h
  by_cases q:f i∈bB f i
  ·rw[if_pos q] at h
   obtain⟨j,hj,e⟩:=lL h
   exact⟨j,by omega,e⟩
  ·rw[if_neg q] at h
   rcases Jj.mp h with h|h
   ·obtain⟨j,hj,e⟩:=lL h
    exact⟨j,by omega,e⟩
   ·exact⟨i,by omega,(Jb.mp h).symm⟩
theorem oq {α:Type}[DecidableEq α]{f:Nat -> α}:∀{i:Nat},(bB f i).Nodup
 | 0=>List.nodup_nil
 | i+1=>by
  unfold bB oneMore
  split
  ·exact oq
  ·rename_i q
   refine List.nodup_append.mpr ⟨oq,U4.mpr ⟨by simp,List.nodup_nil⟩,fun a ha b hb e=>q ?_⟩
   rw[<-Jb.mp hb,<-e];exact ha
theorem sD {zs:List Str}{x:Str}(h:x∈nK zs):x∈zs:=by
 obtain⟨j,hj,e⟩:=lL h
 rw[<-e,Yq,Jf hj]
 exact Jw hj
theorem ones_mul (k:Nat):sg (Txt.mul (Str.ofString "1") (k:Int))=Jt k 49:=vi 49 k
theorem oZ (k:Nat):(Txt.mul (Str.ofString "1") (k:Int)).length=k:=by
 rw[str_len]
 show(sg _).length=k
 rw[ones_mul,U1]
theorem uB (k:Nat):jL (Txt.mul (Str.ofString "1") (k:Int)):=fun ch hc=>by
 have hc:ch∈sg (Txt.mul (Str.ofString "1") (k:Int)):=hc
 rw[ones_mul] at hc
 exact .inr (List.mem_replicate.mp hc).2
theorem vg {k:Nat}(hk:k<12):aY 12 (Txt.mul (Str.ofString "1") (k:Int)++Str.ofString "0"):=by
 have e:sg (Txt.mul (Str.ofString "1") (k:Int)++Str.ofString "0")=Jt k 49++[48]:=by rw[jj,ones_mul];rfl
 have l:(Txt.mul (Str.ofString "1") (k:Int)++Str.ofString "0").length=k+1:=by
  rw[str_len]
  show(sg _).length=_
  rw[e,Jg,U1];rfl
 refine⟨fun ch hc =>?_,by omega,by omega⟩
 have hc:ch∈sg (Txt.mul (Str.ofString "1") (k:Int)++Str.ofString "0"):=hc
 rw[e] at hc
 rcases Jj.mp hc with h|h
 ·exact .inr (List.mem_replicate.mp h).2
 ·exact .inl (Jb.mp h)
theorem u0 {H:Hp}{b c:Addr}{t:Int}(bx:Bx H b c t):∃g:Bool,(∃kvs,H b=some (.dK kvs)/\(aq kvs (.inr "great")).isSome=g)/\(g=false->gj H b (.str "great") (.int 1) (upd H b (.dK [(.inr "cells",.ref c),(.inr "turn",.int t),(.inr "great",.int 1)]))/\Step b c H (upd H b (.dK [(.inr "cells",.ref c),(.inr "turn",.int t),(.inr "great",.int 1)])) t t 0):=by
 obtain⟨ns,ex,bx⟩:=bx
 rcases bx.xl with rfl|rfl
 ·refine⟨false,⟨_,bx.d,rfl⟩,fun _=>⟨gj.k (k:=Sum.inr "great") bx.d (by show 2<sizeLine;decide),Yb _,by omega,⟨ns,_,aE,.inr rfl,by rw[aj (Ne.symm bx.bc)];exact bx.l,bx.ne,bx.le⟩,by rw[kD];exact aw.refl _⟩⟩
 ·exact⟨true,⟨_,bx.d,rfl⟩,(fun z=>nomatch z)⟩
section
variable {P:Program}{w:World}{K:Jd}{mg:Str->Option Value}{base:Heap}{f:Addr}{fd:FuncData}
theorem gN:bb ["_law_state", "_law_way"] ["_law_state"] (aF (top eY)):=⟨rfl,rfl,rfl,by decide +kernel,rfl,by decide +kernel,by decide +kernel⟩
theorem yY (F:d5 K "_law_sizes" "_law_sizes" (top eY) f fd)(T:Nm mg)(aK:Fn P w K mg base 1 "_law_take" ["_law_state", "_law_many"] rB):cf P w K mg base ir 2 f fd ["_law_state"] pY:=by
 refine F.ok gN (fun vs H Q E h =>?_) (fun dS A outer s H vs Q E hr h =>?_)
 ·obtain⟨b,c,t,rfl,_⟩:=h
  rfl
 unfold pY at h
 refine ae.el h _ ?_
 clear h
 rintro b c t rfl bx t0 t1 q
 have hu:=jE hr
 have hW:=hr.units
 refine⟨_,(ah (aG (i:=1) gN.nd rfl (Or.inl rfl) (bp (aK.mono (by decide)) hr rfl (aa (pv 0) (aa ar ag))))
  (ah (cR (PW.pt (ja (aI (Am K hW) (pv 1) ar (aQ _)) (gT (ic (fE hu aZ (pv 0)))))) (ah (gI hu (pv 0) aZ ar rfl)
  (ao (aX (gK (aa (aW eJ ar (bp (aK.mono (by decide)) hr rfl (aa (pv 0) (aa ar ag)))) (aa (aW eJ ar (bp (aK.mono (by decide)) hr rfl (aa (pv 0) (aa ar ag)))) ag)))))) bu)
  (ah (cR (aI (Kv K) (pv 1) (gK (aa ar (aa ar ag))) (by with_unfolding_all rfl)) (ao (aX (gK (aa (aW eJ ar (bp (aK.mono (by decide)) hr rfl (aa (pv 0) (aa ar ag)))) (aa (aW eJ ar (bp (aK.mono (by decide)) hr rfl (aa (pv 0) (aa ar ag)))) ag))))) bu)
  (ao (aX (gK (aa (aW eJ ar (bp (aK.mono (by decide)) hr rfl (aa (pv 0) (aa ar ag)))) (aa (aW eJ ar (bp (aK.mono (by decide)) hr rfl (aa (pv 0) (aa ar ag)))) ag)))))))),?_⟩
 refine⟨_,rfl,b,c,t,16,rfl,bx,by omega,by omega,by decide,by decide,fun way H1 w0 w1 eV=>gn ?_⟩
 dsimp only
 refine bW (t:=nU _ _ _) (fun σ H' =>σ=[some (.ref b),some (.int way)]/\H'=H1) (fun Nx nx =>?_) ?_
 ·refine⟨_,rfl,.inl ⟨rfl,_,rfl,eK (fun _ =>?_) (fun _=>cM (nx _ _ ⟨rfl,rfl⟩))⟩⟩
  obtain⟨g,⟨kvs,hk,hg⟩,put⟩:=u0 eV.bx
  refine⟨_,rfl,b,_,rfl,cN.k (k:=Sum.inr "great") hk,_,rfl,?_⟩
  rw[hg]
  cases g with
  | true=>exact cM (nx _ _ ⟨rfl,rfl⟩)
  | false=>
   refine ae.el (put rfl) _ ?_
   rintro hput bz
   have bz:=eV.trans bz
   refine eh ⟨_,rfl,b,_,rfl,hput,?_⟩
   generalize upd H1 b _=H2 at bz
   refine⟨_,rfl,b,c,_,_,rfl,bz.bx,by omega,by omega,by decide,by decide,fun m HA m0 m1 stA =>.inl ⟨_,_,rfl,rfl,?_⟩⟩
   refine⟨_,rfl,b,c,_,_,rfl,stA.bx,by omega,by omega,by decide,by decide,fun o HB o0 o1 stB =>.inl ⟨_,_,rfl,rfl,by show 2<=sizeLine;decide,fun tp HC nC =>?_⟩⟩
   exact q _ _ tp HC _ (by omega) (by omega) (by omega) (by omega) (((bz.trans stA).trans stB).dy nC) nC.at
 rintro σ H2 ⟨rfl,rfl⟩
 refine⟨_,rfl,by show 2<=sizeLine;decide,fun p H3 n3=>⟨p,_,rfl,.inr (iC.of n3.at),rfl,rfl,_,rfl,eK (fun _ =>?_) (fun _ =>?_)⟩⟩
 ·have cv:=eV.dy n3
  refine⟨_,rfl,b,c,_,_,rfl,cv.bx,by omega,by omega,by decide,by decide,fun m HA m0 m1 stA =>.inl ⟨_,_,rfl,rfl,?_⟩⟩
  refine⟨_,rfl,b,c,_,_,rfl,stA.bx,by omega,by omega,by decide,by decide,fun o HB o0 o1 stB =>.inl ⟨_,_,rfl,rfl,by show 2<=sizeLine;decide,fun tp HC nC =>?_⟩⟩
  exact q _ _ tp HC _ (by omega) (by omega) (by omega) (by omega) (((cv.trans stA).trans stB).dy nC) nC.at
 ·have cv:=eV.dy n3
  refine⟨_,rfl,b,c,_,_,rfl,cv.bx,by omega,by omega,by decide,by decide,fun m HA m0 m1 stA =>.inl ⟨_,_,rfl,rfl,?_⟩⟩
  refine⟨_,rfl,b,c,_,_,rfl,stA.bx,by omega,by omega,by decide,by decide,fun o HB o0 o1 stB =>.inl ⟨_,_,rfl,rfl,by show 2<=sizeLine;decide,fun tp HC nC =>?_⟩⟩
  exact q _ _ tp HC _ (by omega) (by omega) (by omega) (by omega) (((cv.trans stA).trans stB).dy nC) nC.at
theorem b0:bb ["_law_state", "_law_way", "_law_many", "_law_most", "_law_codes"] ["_law_state"] (aF (top gh)):=⟨rfl,rfl,rfl,by decide +kernel,rfl,by decide +kernel,by decide +kernel⟩
theorem wK (F:d5 K "_law_book" "_law_book" (top gh) f fd)(T:Nm mg)(dY:mg "sorted" = none)(ug:mg "set" = none)(aK:Fn P w K mg base 1 "_law_take" ["_law_state", "_law_many"] rB)(m6:Fn P w K mg base 2 "_law_sizes" ["_law_state"] pY)(oP:Fn P w K mg base 2 "_law_free" ["_law_state", "_law_many", "_law_most"] wj)(nG:Fn P w K mg base 2 "_law_names" ["_law_state", "_law_many"] wA):cf P w K mg base ir 3 f fd ["_law_state"] (qe K):=by
 refine F.ok b0 (fun vs H Q E h =>?_) (fun dS A outer s H vs Q E hr h =>?_)
 ·obtain⟨b,c,t,rfl,_⟩:=h
  rfl
 unfold qe at h
 refine ae.el h _ ?_
 clear h
 rintro b c t rfl bx t0 t1 q
 have hW:=hr.units
 have small:∀{n:Nat},n<=1000->n<sizeLine:=fun h=>Uc h (by decide)
 refine⟨_,(ah (aG (i:=1) b0.nd rfl (Or.inl rfl) (bp (aK.mono (by decide)) hr rfl (aa (pv 0) (aa ar ag))))
  (ah (pd (bp (m6.mono (by decide)) hr rfl (aa (pv 0) ag)) (tupK K 2 rfl (aJ (ak (i:=2) b0.nd rfl (Or.inl rfl)) (aJ (ak (i:=3) b0.nd rfl (Or.inr rfl)) cL))))
  (ah (aG (i:=4) b0.nd rfl (Or.inl rfl) (bp (oP.mono (by decide)) hr rfl (aa (pv 0) (aa (pv 2) (aa (pv 3) ag)))))
  (ah (cR (aI (Am K hW) (pv 1) ar (aQ _)) (ao (aG (i:=4) b0.nd rfl (Or.inl rfl) (az (nV rfl) rfl dY (by rfl) (aa (dZ (qG rfl) rfl ug (by rfl) (aa (bR rfl (aO (Nc:=["_law_code"]) (Fc:=["_law_most"]) (js:=[3])) (iz K (pv 4)) (aD (i:=0) (n:=1) (by decide)) (fun _ _ _ _ _=>(ak (i:=0) (fJ ["_law_code", "_law_most"]) rfl (Or.inl rfl))) (fun _ _ _ _ _=>bJ) (fun _ _ _ _ _=>(cD (zP K) (aW yu (pv 0) ar) dc (cZ (pv 1))))) ag)) ag)))) bu)
  (ah (cR (aI (Am K hW) (pv 1) ar (aQ _)) (ao (aG (i:=4) b0.nd rfl (Or.inl rfl) (aW eJ (bR rfl (aO (Nc:=["_law_k"]) (Fc:=[]) (js:=[])) (dg rfl T.n_range (aa (pv 2) ag)) (aD (i:=0) (n:=1) (by decide)) (fun _ _ _ _ _=>(ak (i:=0) (fJ ["_law_k"]) rfl (Or.inl rfl))) (fun _ _ _ _ _=>bJ) (fun _ _ _ _ _=>(aW eJ (aW yu aZ (pv 0)) aZ))) (aW lX (dm (aa (aW yu aZ (pv 2)) ag)) (aW lX (bp (aK.mono (by decide)) hr rfl (aa (pv 0) (aa ar ag))) (dZ qv rfl T.n_int (by rfl) (aa (iZ pH (pv 2) ar (aQ _)) ag))))))) bu)
  (ao (aX (nY rfl rfl T.n_list rfl T.n_zip (aa (bp (nG.mono (by decide)) hr rfl (aa (pv 0) (aa (az (dP K) rfl T.n_len (by rfl) (aa (pv 4) ag)) ag))) (aa (pv 4) ag)))))))))),?_⟩
 refine⟨_,rfl,b,c,t,8,rfl,bx,by omega,by omega,by decide,by decide,fun way H1 w0 w1 eV=>gn ?_⟩
 refine⟨_,rfl,b,c,_,rfl,eV.bx,by omega,by omega,fun m o tp H2 t2 m0 m1 o0 o1 bz htp=>⟨tp,_,rfl,iC.of htp,rfl,_,_,rfl,_,_,rfl,rfl,?_⟩⟩
 have bz:=eV.trans bz
 have KL:=bz.ub
 have GX:=bz.le
 refine⟨_,rfl,_,rfl,_,rfl,b,c,t2,m,o,rfl,bz.bx,by omega,by omega,m0,m1,o0,o1,fun cs l H3 t3 _ le _ cd cv hl fP=>gn ?_⟩
 obtain⟨lb,lc⟩:=bz.bx.bM hl
 have cv:=bz.trans cv
 have A3:∀x∈cs,aY 12 x:=fun x hx=>(cd x hx).mono (by omega)
 dsimp only
 refine bW (t:=nU _ _ _) (fun σ H'=>bV fun(cs:List Str) (l:Addr) =>σ=[some (.ref b),some (.int way),some (.int m),some (.int o),some (.ref l)]/\l≠b/\l≠c/\cs.length<=13/\(∀x∈cs,aY 12 x)/\Step b c H H' t t3 44/\H' l=some (.lst (cs.map V.str))) (fun Nx nx =>?_) ?_
 ·refine⟨_,rfl,.inl ⟨rfl,_,rfl,eK (fun _ =>?_) (fun _=>nx _ _ ⟨cs,l,rfl,lb,lc,by omega,A3,cv,fP⟩)⟩⟩
  have Ce:∀{k:Nat} (hk:k<cs.length),(cs.map V.str)[k]? = some (.str cs[k]):=fun hk=>by rw[Jn,Jf hk];rfl
  refine⟨_,rfl,l,rfl,⟨_,aB.of fP⟩,?_⟩
  refine bA (N:=cs.length) (fun k ys H'=>H'=H3/\ys=((cs.take k).map fun x=>Txt.slice (Txt.mul x 8) none (some o)).map V.str) ⟨rfl,rfl⟩ ?_ ?_
  ·rintro k ys H4 Ny hk ⟨rfl,rfl⟩ ny
   refine⟨⟨_,_,aB.of fP,Ce hk⟩,small (by rw[Ja,Ja,J3];omega),?_⟩
   rintro x H5 ⟨rfl,hy⟩
   have e:=hy _ (aB.of fP)
   rw[Ce hk] at e;cases e
   have hle:=(A3 _ (Jw hk)).le
   have Hm:=nv (A3 _ (Jw hk)).pos
   refine gn ⟨_,rfl,.inr ⟨_,_,rfl,rfl,fh (by omega) (by decide) (by decide),_,rfl,o,rfl,.inr ⟨_,rfl,Uy (small (by omega)),ny _ _ ⟨rfl,?_⟩⟩⟩⟩
   rw[List.take_succ_eq_append_getElem hk,Jh,Jh];rfl
  rintro ys H4 ⟨rfl,rfl⟩
  refine⟨⟨_,aB.of fP,by rw[Ja];exact Je _⟩,fun p hp =>?_⟩
  rw[J0]
  obtain⟨zs,xF⟩:∃zs,zs=cs.map fun x=>Txt.slice (Txt.mul x 8) none (some o):=⟨_,rfl⟩
  rw[<-xF]
  obtain⟨H5,n5⟩:∃H5,dz H4 p (.lst (zs.map V.str)) H5:=⟨_,hp,rfl⟩
  rw[<-n5.eq]
  have zl:zs.length=cs.length:=by rw[xF,Ja]
  have ev:∀x∈zs,aY 12 x:=fun x hx=>by
   rw[xF] at hx
   refine ae.el (Jv.mp hx) _ ?_
   rintro y hy rfl
   exact Gj (A3 y hy) o0 o1
  have ol:(nK zs).length<=zs.length:=gr _ _
  refine⟨p,zs,rfl,aB.of n5.at,by omega,fun a H6 n6=>⟨a,nK zs,rfl,n6.at,oq,by omega,fun ms l7 H7 pm n7=>gn ?_⟩⟩
  have nQ:=(cv.dy n5).dy n6
  obtain⟨lb7,lc7⟩:=nQ.bx.bM n7.nn
  have ml:=pm.length_eq
  exact nx _ _ ⟨ms,l7,rfl,lb7,lc7,by omega,fun x hx=>ev x (sD (pm.mem_iff.mp hx)),nQ.dy n7,n7.at⟩
 clear le cd A3 fP lb lc hl
 intro σ H4
 refine ae.go ?_
 rintro cs l rfl lb lc le cd iw rV
 refine bW (t:=nU _ _ _) (fun σ H'=>dR fun(cs:List Str) (l:Addr) (t':Int) =>σ=[some (.ref b),some (.int way),some (.int m),some (.int o),some (.ref l)]/\l≠b/\l≠c/\cs.length<=13/\(∀x∈cs,aY 12 x)/\Step b c H H' t t' 45/\H' l=some (.lst (cs.map V.str))) (fun Nx nx =>?_) ?_
 ·refine⟨_,rfl,.inl ⟨rfl,_,rfl,eK (fun _ =>?_) (fun _=>nx _ _ ⟨cs,l,t3,rfl,lb,lc,by omega,cd,iw.more (by omega),rV⟩)⟩⟩
  obtain⟨k,rfl⟩:∃k:Nat,m=k:=⟨m.toNat,by omega⟩
  refine⟨_,rfl,_,rfl,by omega,by omega,?_⟩
  refine bA (N:=k) (fun i ys H'=>H'=H4/\ys=((Wh i).map fun(j:Nat)=>Txt.mul (Str.ofString "1") (j:Int)++Str.ofString "0").map V.str) ⟨rfl,rfl⟩ ?_ ?_
  ·rintro i ys H5 Ny hi ⟨rfl,rfl⟩ ny
   refine⟨by show i<((k:Nat):Int).toNat;omega,small (by rw[Ja,Ja,Y1];omega),?_⟩
   rintro x H6 ⟨rfl,rfl⟩
   refine gn ?_
   rw[show(0+(i:Int))=((i:Nat):Int) by omega]
   refine⟨_,rfl,.inr ⟨_,_,rfl,rfl,fh (by show 1<=1000;decide) (by omega) (by omega),.inr (.inl ⟨_,_,rfl,rfl,Uy (small (by rw[oZ];show i+1<=1000;omega)),ny _ _ ⟨rfl,?_⟩⟩)⟩⟩
   rw[List.range_succ,Jh,Jh]
   rfl
  rintro ys H5 ⟨rfl,rfl⟩
  refine⟨by show((k:Nat):Int).toNat<=k;omega,fun p hp =>?_⟩
  obtain⟨us,Cp⟩:∃us:List Str,us=(Wh k).map fun(j:Nat)=>Txt.mul (Str.ofString "1") (j:Int)++Str.ofString "0":=⟨_,rfl⟩
  rw[<-Cp]
  have ul:us.length=k:=by rw[Cp,Ja,Y1]
  have uc:∀x∈us,aY 12 x:=fun x hx=>by
   rw[Cp] at hx
   refine ae.el (Jv.mp hx) _ ?_
   rintro j hj rfl
   exact vg (by have:=List.mem_range.mp hj;omega)
  obtain⟨H6,n6⟩:∃H6,dz H5 p (.lst (us.map V.str)) H6:=⟨_,hp,rfl⟩
  rw[<-n6.eq]
  refine⟨_,rfl,.inr ⟨_,_,rfl,rfl,fh (by show 1<=1000;decide) (by omega) (by omega),by show 1<=sizeLine;decide,fun p7 H7 n7 =>?_⟩⟩
  have o7:=(iw.dy n6).dy n7
  have Lm:=o7.ub
  have Lo:=o7.le
  refine⟨_,rfl,b,c,_,2,rfl,o7.bx,by omega,by omega,by decide,by decide,fun r H8 r0 r1 rQ =>?_⟩
  obtain⟨pb7,pc7⟩:=(iw.dy n6).bx.bM n7.nn
  obtain⟨pb,pc⟩:=iw.bx.bM n6.nn
  have AV:=rQ.old n7.at pb7 pc7
  have Ec:=rQ.old (n7.same _ _ n6.at) pb pc
  have rQ:=o7.trans rQ
  refine⟨_,rfl,_,_,rfl,rfl,.inr ⟨_,rfl,.inl ⟨_,_,rfl,rfl,.inl ⟨by omega,by omega⟩,?_⟩⟩⟩
  obtain⟨n,hn,hn'⟩:∃n:Int,r*(if decide ((k:Int)<12)=true then 1 else 0)=n/\(n=0∨n=1/\k<12):=by
   refine⟨_,rfl,?_⟩
   by_cases h:(k:Int)<12
   ·rw[if_pos (decide_eq_true h)];omega
   ·rw[if_neg (by rw[decide_eq_false h];decide)];omega
  rw[hn]
  refine .inr ⟨p7,n,_,rfl,rfl,AV,by omega,by omega,?_,fun p9 H9 n9 =>?_⟩
  ·exact Uy (small (by show 1*n.toNat<=1000;omega))
  have B6:=rQ.dy n9
  refine .inr (.inr ⟨p,p9,_,_,rfl,rfl,n9.same _ _ Ec,n9.at,Uy (small ?_),fun pA HA nA=>gn ?_⟩)
  ·rw[Ja,ul]
   rcases hn' with e|⟨e,_⟩<;>rw[e]<;>simp<;>omega
  obtain⟨pbA,pcA⟩:=B6.bx.bM nA.nn
  have Dn:=nA.at
  rcases hn' with e|⟨e,hk12⟩
  ·rw[e] at Dn
   exact nx _ _ ⟨us,pA,_,rfl,pbA,pcA,by omega,uc,B6.dy nA,by rw[Dn];exact congrArg (fun l=>some (HO.lst l)) (Ut _)⟩
  ·rw[e] at Dn
   refine nx _ _ ⟨us++[Txt.mul (Str.ofString "1") (k:Int)],pA,_,rfl,pbA,pcA,by rw[Jg];show us.length+1<=13;omega,fun x hx =>?_,B6.dy nA,by rw[Dn,Jh];rfl⟩
   rcases Jj.mp hx with h|h
   ·exact uc x h
   ·rw[Jb.mp h]
    exact⟨uB k,by rw[oZ];omega,by rw[oZ];omega⟩
 clear le cd rV lb lc iw
 intro σ H4
 refine ae.go ?_
 rintro cs l t4 rfl lb lc le cd iw rV
 have Lh:=iw.ub
 have Le:=iw.le
 have hlen:(cs.map V.str).length=cs.length:=Ja _
 refine⟨_,rfl,_,rfl,_,_,rfl,.inl ⟨_,aB.of rV,rfl⟩,b,c,_,_,rfl,iw.bx,by omega,by omega,by omega,by omega,fun xs l5 H5 t5 AM nd ln cG rR hl55 =>?_⟩
 have I0:=cG.old rV lb lc
 have cG:=iw.trans cG
 refine⟨_,rfl,l5,l,_,_,rfl,aB.of hl55,aB.of I0,fun H7 p as sm hp hp7 Al hpairs =>?_⟩
 have Ej:xs.length=cs.length:=by omega
 refine q (xs.zip cs) (.ref p) H7 t5 ?_ (tZ cG.bx hp hp7 Ej Al hpairs) ((cG.trans (Step.same cG.bx sm)).more (by omega))
 have h1:(xs.zip cs).map (·.1)=xs:=List.map_fst_zip (by omega)
 exact⟨by rw[List.length_zip];omega,by rw[h1];exact nd,fun z hz=>cd _ (List.of_mem_zip (a:=z.1) (b:=z.2) hz).2,fun z hz=>(ln _ (List.of_mem_zip (a:=z.1) (b:=z.2) hz).1).1,fun z hz=>(ln _ (List.of_mem_zip (a:=z.1) (b:=z.2) hz).1).2⟩
end
noncomputable abbrev Sg:=List Nat
noncomputable def nx (cs:List Sg)(p:Sg×Sg):List (Sg×Sg):=
 if p.1.head? ≠ p.2.head? ∨ p.1=[] then [] else if p.1.length=1/\p.2.length=1 then [([],[])] else
  (if 1<p.1.length then [p.1.tail] else cs).flatMap fun f=>(if 1<p.2.length then [p.2.tail] else cs).map fun s=>(f,s)
noncomputable def fN (P:Nat->Prop)(v:Option Nat):Prop:=(v=none/\∀a,¬P a)∨∃m,v=some m/\P m/\∀a,P a->a<=m
theorem fN.one {P:Nat->Prop}{v u:Option Nat}(h:fN P v)(g:fN P u):v=u:=by
 rcases h with ⟨rfl,h⟩|⟨m,rfl,h,h'⟩
 ·rcases g with ⟨rfl,_⟩|⟨m,_,g,_⟩
  ·rfl
  ·exact absurd g (h m)
 ·rcases g with ⟨_,g⟩|⟨n,rfl,g,g'⟩
  ·exact absurd h (g m)
  ·rw[Y2 (g' m h) (h' n g)]
theorem fN.congr {P Q:Nat->Prop}{v:Option Nat}(h:fN P v)(e:∀a,P a↔Q a):fN Q v:=by
 rcases h with ⟨rfl,h⟩|⟨m,rfl,h,h'⟩
 ·exact .inl ⟨rfl,fun a z=>h a ((e a).mpr z)⟩
 ·exact .inr ⟨m,rfl,(e m).mp h,fun a z=>h' a ((e a).mpr z)⟩
theorem fN.up {P:Nat->Prop}{v:Option Nat}(h:fN P v)(n:Nat):fN (fun a=>∃d,P d/\a=d+n) (v.map (· + n)):=by
 rcases h with ⟨rfl,h⟩|⟨m,rfl,h,h'⟩
 ·exact .inl ⟨rfl,fun a ⟨d,z,_⟩=>h d z⟩
 ·exact .inr ⟨m+n,rfl,⟨m,h,rfl⟩,fun a ⟨d,z,e⟩=>by have:=h' d z;omega⟩
noncomputable def HV (S:Nat->Prop)(m:Nat):Prop:=(m=0∨S m)/\∀a,S a->a<=m
inductive Wv (cs:List Sg):Sg×Sg->Option Nat->Prop
 | fin:Wv cs ([],[]) (some 0)
 | step (p:Sg×Sg) (f:Sg×Sg->Option Nat) (v:Option Nat) (h1:p.1≠[]) (h2:p.2≠[]) (h:∀q∈nx cs p,Wv cs q (f q)) (t:fN (fun a=>∃q∈nx cs p,∃d,f q=some d/\a=d+1) v):Wv cs p v
theorem Wv.one {cs:List Sg}{p:Sg×Sg}{v:Option Nat}(h:Wv cs p v):∀{u:Option Nat},Wv cs p u->v=u:=by
 induction h with
 | fin=>
  intro u g
  cases g with
  | fin=>rfl
  | step p f v h1 h2 h t=>exact absurd rfl h1
 | step p f v h1 h2 h t ih=>
  intro u g
  cases g with
  | fin=>exact absurd rfl h1
  | step p g u k1 k2 k t'=>
   refine t.one (t'.congr fun a=>⟨fun⟨q,hq,d,e,ea⟩=>⟨q,hq,d,by rw[ih q hq (k q hq)];exact e,ea⟩,fun⟨q,hq,d,e,ea⟩=>⟨q,hq,d,by rw[<-ih q hq (k q hq)];exact e,ea⟩⟩)
theorem Wv.next {cs:List Sg}{p q:Sg×Sg}{v:Option Nat}(h:Wv cs p v)(hq:q∈nx cs p):∃u,Wv cs q u:=by
 cases h with
 | fin=>simp[nx] at hq
 | step p f v h1 h2 h t=>exact⟨_,h q hq⟩
section
variable {cs:List Sg}{a b:Nat}{x y:Sg}
theorem xD (h:a≠b):nx cs (a::x,b::y)=[]:=by
 unfold nx;rw[if_pos (.inl fun e=>h (by simpa using e))]
theorem tM:nx cs ([a],[a])=[([],[])]:=by
 unfold nx;rw[if_neg (by simp),if_pos (by simp)]
theorem zH (h:y≠[]):nx cs ([a],a::y)=cs.map fun c=>(c,y):=by
 have hl:0<y.length:=Ul.mpr h
 unfold nx
 rw[if_neg (by simp),if_neg (by simp[h])]
 dsimp only
 rw[if_neg (show ¬ 1<[a].length by simp),if_pos (show 1<(a::y).length by rw[J1];omega)]
 show cs.flatMap (fun f=>[(f,y)])=_
 induction cs with
 | nil=>rfl
 | cons c cs ih=>rw[List.flatMap_cons,ih];rfl
theorem xX (h:x≠[]):nx cs (a::x,[a])=cs.map fun c=>(x,c):=by
 have hl:0<x.length:=Ul.mpr h
 unfold nx
 rw[if_neg (by simp),if_neg (by simp[h])]
 dsimp only
 rw[if_pos (show 1<(a::x).length by rw[J1];omega),if_neg (show ¬ 1<[a].length by simp)]
 simp
theorem l4 (h:x≠[])(h':y≠[]):nx cs (a::x,a::y)=[(x,y)]:=by
 have hl:0<x.length:=Ul.mpr h
 have sT:0<y.length:=Ul.mpr h'
 unfold nx
 rw[if_neg (by simp),if_neg (by simp[h])]
 dsimp only
 rw[if_pos (show 1<(a::x).length by rw[J1];omega),if_pos (show 1<(a::y).length by rw[J1];omega)]
 rfl
theorem Wv.sign {w:Option Nat}(h:x≠[])(h':y≠[])(g:Wv cs (x,y) w):Wv cs (a::x,a::y) (w.map (· + 1)):=by
 refine .step _ (fun _=>w) _ (by simp) (by simp) (fun q hq =>?_) ?_
 ·rw[l4 h h',Jb] at hq
  rw[hq];exact g
 ·rw[l4 h h']
  cases w with
  | none=>exact .inl ⟨rfl,fun a ⟨q,hq,d,e,_⟩=>nomatch e⟩
  | some m=>exact .inr ⟨m+1,rfl,⟨_,Jb.mpr rfl,m,rfl,rfl⟩,fun a ⟨q,hq,d,e,ea⟩=>by cases e;omega⟩
theorem Wv.pre {w:Option Nat}(h:x≠[])(h':y≠[])(g:Wv cs (x,y) w):∀(u:Sg),Wv cs (u++x,u++y) (w.map (· + u.length))
 | []=>by simpa using g
 | a::u=>by
  have:=Wv.sign (a:=a) (x:=u++x) (y:=u++y) (by simp[h]) (by simp[h']) (Wv.pre h h' g u)
  rw[Option.map_map] at this
  have e:((fun n=>n+1)∘fun n=>n+u.length)=fun n:Nat=>n+(a::u).length:=by
   funext n;simp;omega
  rw[e] at this
  exact this
theorem Wv.miss (h:a≠b)(u:Sg):Wv cs (u++a::x,u++b::y) none:=by
 have g:Wv cs (a::x,b::y) none:=by
  refine .step _ (fun _=>none) _ (by simp) (by simp) (fun q hq =>?_) (.inl ⟨rfl,fun a ⟨q,hq,_⟩=>?_⟩)
  ·rw[xD h] at hq;cases hq
  ·rw[xD h] at hq;cases hq
 exact Wv.pre (by simp) (by simp) g u
theorem Wv.self (h:x≠[]):Wv cs (x,x) (some x.length):=by
 obtain⟨u,a,rfl⟩:∃u a,x=u++[a]:=⟨_,_,(Y3 h).symm⟩
 have g:Wv cs ([a],[a]) (some 1):=by
  refine .step _ (fun _=>some 0) _ (by simp) (by simp) (fun q hq =>?_) ?_
  ·rw[tM,Jb] at hq
   rw[hq];exact .fin
  ·rw[tM]
   exact .inr ⟨1,rfl,⟨_,Jb.mpr rfl,0,rfl,rfl⟩,fun a ⟨q,hq,d,e,ea⟩=>by cases e;omega⟩
 have:=Wv.pre (by simp) (by simp) g u
 rw[Jg]
 simpa [Nat.add_comm] using this
theorem Wv.over {r:Sg}{g:Sg->Option Nat}{v:Option Nat}(hr:r≠[])(h:∀c∈cs,Wv cs (r,c) (g c))(t:fN (fun a=>∃c∈cs,g c=some a) v){u:Sg}(hu:u≠[]):Wv cs (u++r,u) (v.map (· + u.length)):=by
 obtain⟨u,a,rfl⟩:∃w a,u=w++[a]:=⟨_,_,(Y3 hu).symm⟩
 have g1:Wv cs (a::r,[a]) (v.map (· + 1)):=by
  refine .step _ (fun q=>g q.2) _ (by simp) (by simp) (fun q hq =>?_) ((t.up 1).congr fun n =>?_)
  ·rw[xX hr] at hq
   obtain⟨c,hc,rfl⟩:=Jv.mp hq
   exact h c hc
  ·rw[xX hr]
   exact⟨fun⟨d,⟨c,hc,e⟩,ea⟩=>⟨(r,c),Jv.mpr ⟨c,hc,rfl⟩,d,e,ea⟩,fun⟨q,hq,d,e,ea⟩=>by
    obtain⟨c,hc,rfl⟩:=Jv.mp hq
    exact⟨d,⟨c,hc,e⟩,ea⟩⟩
 have:=Wv.pre (by simp) (by simp) g1 u
 rw[Option.map_map] at this
 have e:((fun n=>n+u.length)∘fun n=>n+1)=fun n:Nat=>n+(u++[a]).length:=by
  funext n;simp;omega
 rw[e] at this
 simpa using this
theorem Wv.xp {r:Sg}{g:Sg->Option Nat}{v:Option Nat}(hr:r≠[])(h:∀c∈cs,Wv cs (c,r) (g c))(t:fN (fun a=>∃c∈cs,g c=some a) v){u:Sg}(hu:u≠[]):Wv cs (u,u++r) (v.map (· + u.length)):=by
 obtain⟨u,a,rfl⟩:∃w a,u=w++[a]:=⟨_,_,(Y3 hu).symm⟩
 have g1:Wv cs ([a],a::r) (v.map (· + 1)):=by
  refine .step _ (fun q=>g q.1) _ (by simp) (by simp) (fun q hq =>?_) ((t.up 1).congr fun n =>?_)
  ·rw[zH hr] at hq
   obtain⟨c,hc,rfl⟩:=Jv.mp hq
   exact h c hc
  ·rw[zH hr]
   exact⟨fun⟨d,⟨c,hc,e⟩,ea⟩=>⟨(c,r),Jv.mpr ⟨c,hc,rfl⟩,d,e,ea⟩,fun⟨q,hq,d,e,ea⟩=>by
    obtain⟨c,hc,rfl⟩:=Jv.mp hq
    exact⟨d,⟨c,hc,e⟩,ea⟩⟩
 have:=Wv.pre (by simp) (by simp) g1 u
 rw[Option.map_map] at this
 have e:((fun n=>n+u.length)∘fun n=>n+1)=fun n:Nat=>n+(u++[a]).length:=by
  funext n;simp;omega
 rw[e] at this
 simpa using this
end
noncomputable def Lt (c x r:Sg):Prop:=r≠[]/\(x=c++r∨c=x++r)
inductive En (cs:List Sg):Sg->Prop
 | mk (x:Sg) (h:∀c∈cs,∀r,Lt c x r->En cs r):En cs x
inductive Dl (cs:List Sg):Sg->Option Nat->Prop
 | mk (x:Sg) (f:Sg->Option Nat) (v:Option Nat) (h:∀c∈cs,∀r,Lt c x r->Dl cs r (f r)) (t:fN (fun a=>(x∈cs/\a=x.length)∨∃c∈cs,∃r d,Lt c x r/\f r=some d/\a=min x.length c.length+d) v):Dl cs x v
theorem Dl.one {cs:List Sg}{x:Sg}{v:Option Nat}(h:Dl cs x v):∀{u:Option Nat},Dl cs x u->v=u:=by
 induction h with
 | mk x f v h t ih=>
  intro u g
  cases g with
  | mk x g u k t'=>
   exact t.one (t'.congr fun a=>or_congr Iff.rfl ⟨fun⟨c,hc,r,d,hl,e,ea⟩=>⟨c,hc,r,d,hl,by rw[ih c hc r hl (k c hc r hl)];exact e,ea⟩,fun⟨c,hc,r,d,hl,e,ea⟩=>⟨c,hc,r,d,hl,by rw[<-ih c hc r hl (k c hc r hl)];exact e,ea⟩⟩)
theorem Lt.one {c x r r':Sg}(h:Lt c x r)(h':Lt c x r'):r=r':=by
 obtain⟨n,h⟩:=h
 obtain⟨n',h'⟩:=h'
 have l1:0<r.length:=Ul.mpr n
 have l2:0<r'.length:=Ul.mpr n'
 rcases h with h|h<;>rcases h' with h'|h'
 ·rw[h] at h';exact U5 h'
 ·have z1:=congrArg Ue h;have z2:=congrArg Ue h';rw[Jg] at z1 z2;omega
 ·have z1:=congrArg Ue h;have z2:=congrArg Ue h';rw[Jg] at z1 z2;omega
 ·rw[h] at h';exact U5 h'
theorem l9:∀(x c:Sg),x=c∨(∃r,Lt c x r)∨∃u a b x' c',a≠b/\x=u++a::x'/\c=u++b::c'
 | [],[] =>.inl rfl
 | [],b::c =>.inr (.inl ⟨b::c,by simp,.inr rfl⟩)
 | a::x,[] =>.inr (.inl ⟨a::x,by simp,.inl rfl⟩)
 | a::x,b::c=>by
  by_cases h:a=b
  ·subst h
   rcases l9 x c with h|⟨r,n,h|h⟩|⟨u,d,e,x',c',ne,h1,h2⟩
   ·exact .inl (by rw[h])
   ·exact .inr (.inl ⟨r,n,.inl (by rw[h];rfl)⟩)
   ·exact .inr (.inl ⟨r,n,.inr (by rw[h];rfl)⟩)
   ·exact .inr (.inr ⟨a::u,d,e,x',c',ne,by rw[h1];rfl,by rw[h2];rfl⟩)
  ·exact .inr (.inr ⟨[],a,b,x,c,h,rfl,rfl⟩)
theorem mK {u x' c':Sg}{a b:Nat}(ne:a≠b){r:Sg}(h:Lt (u++b::c') (u++a::x') r):False:=by
 obtain⟨_,h|h⟩:=h
 ·rw[Uo,List.cons_append] at h
  have:=U5 h
  exact ne (List.cons.inj this).1
 ·rw[Uo,List.cons_append] at h
  have:=U5 h
  exact ne (List.cons.inj this).1.symm
theorem Dl.worth {cs:List Sg}(sC:∀c∈cs,c≠[]){x:Sg}{v:Option Nat}(h:Dl cs x v):x≠[]->(∃g:Sg->Option Nat,(∀c∈cs,Wv cs (x,c) (g c))/\fN (fun a=>∃c∈cs,g c=some a) v)/\∃g:Sg->Option Nat,(∀c∈cs,Wv cs (c,x) (g c))/\fN (fun a=>∃c∈cs,g c=some a) v:=by
 induction h with
 | mk x f v h t ih=>
  intro hx
  have key:∀(sw:Bool),∀c∈cs,∃w:Option Nat,Wv cs (if sw then (c,x) else (x,c)) w/\∀a,w=some a↔((c=x/\a=x.length)∨∃r d,Lt c x r/\f r=some d/\a=min x.length c.length+d):=by
   intro sw c hc
   have GQ:=sC c hc
   rcases l9 x c with rfl|⟨r,hl⟩|⟨u,a,b,x',c',ne,rfl,rfl⟩
   ·refine⟨some x.length,by cases sw<;>exact Wv.self hx,fun a=>⟨fun e =>.inl ⟨rfl,(Option.some.inj e).symm⟩,fun e =>?_⟩⟩
    rcases e with ⟨_,e⟩|⟨r,d,hl,_⟩
    ·rw[e]
    ·exfalso
     obtain⟨n,e|e⟩:=hl
     ·have:=congrArg Ue e;rw[Jg] at this;have:=Ul.mpr n;omega
     ·have:=congrArg Ue e;rw[Jg] at this;have:=Ul.mpr n;omega
   ·obtain⟨⟨g1,w1,t1⟩,⟨g2,w2,t2⟩⟩:=ih c hc r hl hl.1
    have iB:c≠x:=fun e=>by
     subst e
     obtain⟨n,e|e⟩:=hl
     ·have:=congrArg Ue e;rw[Jg] at this;have:=Ul.mpr n;omega
     ·have:=congrArg Ue e;rw[Jg] at this;have:=Ul.mpr n;omega
    have spec:∀{n:Nat},n=min x.length c.length->∀a,(f r).map (· + n)=some a↔((c=x/\a=x.length)∨∃r d,Lt c x r/\f r=some d/\a=min x.length c.length+d):=fun{n} en a=>by
     refine⟨fun e =>?_,fun e =>?_⟩
     ·obtain⟨d,hd,e⟩:=Option.map_eq_some_iff.mp e
      exact .inr ⟨r,d,hl,hd,by omega⟩
     ·rcases e with ⟨e,_⟩|⟨r',d,sT,hd,e⟩
      ·exact absurd e iB
      ·rw[hl.one sT,hd,e];show some (d+n)=_;congr 1;omega
    obtain⟨n,e|e⟩:=hl
    ·subst e
     refine⟨(f r).map (· + c.length),?_,spec (by simp)⟩
     cases sw
     ·exact Wv.over n w1 t1 GQ
     ·exact Wv.xp n w2 t2 GQ
    ·subst e
     refine⟨(f r).map (· + x.length),?_,spec (by simp)⟩
     cases sw
     ·exact Wv.xp n w2 t2 hx
     ·exact Wv.over n w1 t1 hx
   ·refine⟨none,by cases sw;exact Wv.miss ne u;exact Wv.miss (Ne.symm ne) u,fun a=>⟨(fun e=>nomatch e),fun e =>?_⟩⟩
    rcases e with ⟨e,_⟩|⟨r,d,hl,_⟩
    ·have:=U5 e
     exact absurd (List.cons.inj this).1 (Ne.symm ne)
    ·exact(mK ne hl).elim
  have pick:∀sw:Bool,∃g:Sg->Option Nat,(∀c∈cs,Wv cs (if sw then (c,x) else (x,c)) (g c))/\fN (fun a=>∃c∈cs,g c=some a) v:=by
   intro sw
   refine⟨fun c=>open Classical in if hc:c∈cs then (key sw c hc).choose else none,fun c hc =>?_,t.congr fun a=>⟨fun e =>?_,fun e =>?_⟩⟩
   ·dsimp only;rw[dif_pos hc];exact(key sw c hc).choose_spec.1
   ·rcases e with ⟨hc,e⟩|⟨c,hc,r,d,h1,h2,h3⟩
    ·refine⟨x,hc,?_⟩
     dsimp only;rw[dif_pos hc];exact((key sw x hc).choose_spec.2 a).mpr (.inl ⟨rfl,e⟩)
    ·refine⟨c,hc,?_⟩
     dsimp only;rw[dif_pos hc];exact((key sw c hc).choose_spec.2 a).mpr (.inr ⟨r,d,h1,h2,h3⟩)
   ·obtain⟨c,hc,e⟩:=e
    dsimp only at e;rw[dif_pos hc] at e
    rcases((key sw c hc).choose_spec.2 a).mp e with ⟨rfl,e⟩|⟨r,d,h1,h2,h3⟩
    ·exact .inl ⟨hc,e⟩
    ·exact .inr ⟨c,hc,r,d,h1,h2,h3⟩
  exact⟨by simpa using pick false,by simpa using pick true⟩
theorem Wv.ends {cs:List Sg}{p:Sg×Sg}{v:Option Nat}(h:Wv cs p v):∀r,(Lt p.2 p.1 r->En cs r):=by
 induction h with
 | fin=>rintro r ⟨n,e|e⟩<;>exact absurd e.symm (by simpa using n)
 | step p f v h1 h2 h t ih=>
  obtain⟨x,y⟩:=p
  dsimp only at h1 h2
  intro r hl
  cases x with
  | nil=>exact absurd rfl h1
  | cons a x=>
   cases y with
   | nil=>exact absurd rfl h2
   | cons b y=>
    obtain⟨n,e⟩:=hl
    have Bc:a=b:=by
     rcases e with e|e
     ·exact(List.cons.inj e).1
     ·exact(List.cons.inj e).1.symm
    subst Bc
    have e:x=y++r∨y=x++r:=e.imp (fun e=>(List.cons.inj e).2) fun e=>(List.cons.inj e).2
    by_cases hx:x=[]
    ·subst hx
     have hy:y=r:=by
      rcases e with e|e
      ·exact absurd (List.append_eq_nil_iff.mp e.symm).2 n
      ·simpa using e
     subst hy
     refine .mk _ fun c hc r' sT=>ih (c,y) (by rw[zH n];exact Jv.mpr ⟨c,hc,rfl⟩) r' ⟨sT.1,sT.2.symm⟩
    ·by_cases hy:y=[]
     ·subst hy
      have Ei:x=r:=by
       rcases e with e|e
       ·simpa using e
       ·exact absurd (List.append_eq_nil_iff.mp e.symm).2 n
      subst Ei
      exact .mk _ fun c hc r' sT=>ih (x,c) (by rw[xX n];exact Jv.mpr ⟨c,hc,rfl⟩) r' sT
     ·exact ih (x,y) (by rw[l4 hx hy];exact Jb.mpr rfl) r ⟨n,e⟩
theorem En.tE {cs:List Sg}{x:Sg}(h:∀c∈cs,∃v,Wv cs (x,c) v):En cs x := .mk _ fun c hc r hl=>by
 obtain⟨v,hv⟩:=h c hc
 exact hv.ends r hl
inductive Rc (cs:List Sg):Sg×Sg->Prop
 | start (k:Nat) (d c:Sg) (h1:1<=k) (h2:k<d.length) (hd:d∈cs) (hc:c∈cs):Rc cs (d.drop k,c)
 | step (p q:Sg×Sg) (h:Rc cs p) (hq:q∈nx cs p):Rc cs q
theorem Rc.worth {cs:List Sg}(h:∀k d c,1<=k->k<d.length->d∈cs->c∈cs->∃v,Wv cs (d.drop k,c) v){p:Sg×Sg}(r:Rc cs p):∃v,Wv cs p v:=by
 induction r with
 | start k d c h1 h2 hd hc=>exact h k d c h1 h2 hd hc
 | step p q _ hq ih=>
  obtain⟨v,hv⟩:=ih
  exact hv.next hq
noncomputable abbrev nI (ns:List Nat):List V:=ns.map fun n=>V.int (n:Nat)
theorem di (x y:Str):Txt.startswith x y=true↔sg y <+: sg x:=by
 have hl:y.length=(sg y).length:=str_len y
 have hx:x.length=(sg x).length:=str_len x
 have e:(x.cps.extract 0 (0+y.length)==y.cps)=true↔(sg x).take y.length=sg y:=by
  rw[beq_iff_eq,<-Array.toList_inj]
  simp[Array.toList_extract]
 show(decide (0+y.length<=x.length)&&(x.cps.extract 0 (0+y.length)==y.cps))=true↔_
 rw[Ye,decide_eq_true_iff,e]
 constructor
 ·rintro⟨_,h⟩
  rw[<-h]
  exact List.take_prefix _ _
 ·intro h
  exact⟨by have:=h.length_le;omega,by rw[hl];exact(List.prefix_iff_eq_take.mp h).symm⟩
theorem pW {x y:Str}(c:sg x <+: sg y):sg y=sg x++sg (Txt.slice y (some ((x.length:Nat):Int)) none):=by
 rw[fz,show x.length=(sg x).length from str_len x]
 exact List.prefix_iff_eq_append.mp c |>.symm
theorem uV {r:Str}:sg r=[]↔r = "":=⟨fun h=>dN (by rw[h];rfl),fun h=>by rw[h];rfl⟩
theorem lC {q:Str×Str}{x r:Str}:Bh q x r↔Lt (sg q.2) (sg x) (sg r):=by
 unfold Bh gQ Lt
 rw[show(sg r≠[])↔(r ≠ "") from not_congr uV]
 by_cases c1:Txt.startswith x q.2=true
 ·rw[if_pos c1]
  have e:=pW ((di _ _).mp c1)
  refine⟨fun⟨h,n⟩=>⟨n,.inl ?_⟩,fun⟨n,h⟩=>⟨?_,n⟩⟩
  ·injection h with h;rw[<-h];exact e
  ·congr 1
   refine dN ?_
   rcases h with h|h
   ·rw[h] at e;exact(U5 e).symm
   ·exfalso
    have l1:=congrArg Ue h
    have l2:=congrArg Ue e
    rw[Jg] at l1 l2
    have:sg r=[]:=Ux (by omega)
    exact n (uV.mp this)
 ·rw[if_neg c1]
  by_cases c2:Txt.startswith q.2 x=true
  ·rw[if_pos c2]
   have e:=pW ((di _ _).mp c2)
   refine⟨fun⟨h,n⟩=>⟨n,.inr ?_⟩,fun⟨n,h⟩=>⟨?_,n⟩⟩
   ·injection h with h;rw[<-h];exact e
   ·congr 1
    refine dN ?_
    rcases h with h|h
    ·exact absurd ((di _ _).mpr ⟨_,h.symm⟩) c1
    ·rw[h] at e;exact(U5 e).symm
  ·rw[if_neg c2]
   refine⟨(fun h=>nomatch h.1),fun⟨_,h⟩=>?_⟩
   rcases h with h|h
   ·exact absurd ((di _ _).mpr ⟨_,h.symm⟩) c1
   ·exact absurd ((di _ _).mpr ⟨_,h.symm⟩) c2
noncomputable abbrev jx (B:List (Str×Str)):List Sg:=(B.map (·.2)).map sg
noncomputable def toS (s:Sg):Str:=⟨s.toArray⟩
theorem gb (s:Sg):sg (toS s)=s:=by show s.toArray.toList=s;exact Yh
theorem tw (x:Str):toS (sg x)=x:=dN (gb _)
theorem cW {B:List (Str×Str)}{c:Sg}:c∈jx B ↔ ∃q∈B,sg q.2=c:=by
 unfold jx
 rw[Ym,Jv];rfl
theorem ie.lt {B:List (Str×Str)}{q:Str×Str}{x r:Str}(hq:q∈B)(hx:ie B x)(h:Bh q x r):ie B r:=by
 obtain⟨n,h⟩:=lC.mp h
 have hn:0<(sg r).length:=Ul.mpr n
 rcases h with h|h
 ·obtain⟨q',hq',a,a1,a2,e⟩:=hx
  refine⟨q',hq',a+(sg q.2).length,by omega,?_,?_⟩
  ·have:=congrArg Ue (e.symm.trans h)
   rw[Uw,Jg] at this
   omega
  ·have:(sg x).drop (sg q.2).length=sg r:=by rw[h,List.drop_left]
   rw[<-this,e,List.drop_drop]
 ·refine⟨q,hq,(sg x).length,?_,?_,?_⟩
  ·obtain⟨q',hq',a,a1,a2,e⟩:=hx
   rw[e,Uw];omega
  ·rw[h,Jg];omega
  ·rw[h,List.drop_left]
theorem En.mem {B:List (Str×Str)}{E:List Str}(ek:∀r,ie B r->r∉E->∃q∈B,∃r',Bh q r r'/\r'∉E){s:Sg}(h:En (jx B) s):∀r,ie B r->sg r=s->r∈E:=by
 induction h with
 | mk s h ih=>
  intro r hr e
  refine Classical.byContradiction fun hn =>?_
  obtain⟨q,hq,r',hb,hn'⟩:=ek r hr hn
  exact hn' (ih (sg q.2) (cW.mpr ⟨q,hq,rfl⟩) (sg r') (by rw[<-e];exact lC.mp hb) r' (hr.lt hq hb) rfl)
noncomputable def FU (x:Str):Str:=Txt.slice x (some 1) none
theorem uv (x:Str):sg (FU x)=(sg x).tail:=by
 have:=fz (x:=x) 1
 rw[List.drop_one] at this
 exact this
noncomputable abbrev gC (p:Str×Str):Sg×Sg:=(sg p.1,sg p.2)
theorem wy {p q:Str×Str}(h:gC p=gC q):p=q:=by
 obtain⟨a,b⟩:=p
 obtain⟨c,d⟩:=q
 injection h with h1 h2
 have h1:a=c:=dN h1
 have h2:b=d:=dN h2
 rw[h1,h2]
noncomputable abbrev eP:Str×Str:=(Str.ofString "",Str.ofString "")
noncomputable def bZ (cs:List Str)(x:Str):List Str:=if 1<x.length then [FU x] else cs
noncomputable def gE (cs:List Str)(p:Str×Str):List (Str×Str):=
 if (sg p.1).head? ≠ (sg p.2).head? ∨ sg p.1=[] then [] else if p.1.length=1/\p.2.length=1 then [eP] else (bZ cs p.1).flatMap fun f=>(bZ cs p.2).map fun s=>(f,s)
theorem mJ {cs:List Str}{x:Str}:(bZ cs x).map sg=if 1<(sg x).length then [(sg x).tail] else cs.map sg:=by
 have e:x.length=(sg x).length:=str_len x
 unfold bZ
 rw[e]
 split
 ·rw[List.map_singleton,uv]
 ·rfl
theorem pQ {cs:List Str}(p:Str×Str):(gE cs p).map gC=nx (cs.map sg) (gC p):=by
 have e1:p.1.length=(sg p.1).length:=str_len _
 have e2:p.2.length=(sg p.2).length:=str_len _
 unfold gE nx
 rw[e1,e2]
 split
 ·rfl
 ·split
  ·rfl
  ·rw[List.map_flatMap,<-mJ,<-mJ,List.flatMap_map]
   congr 1
   funext f
   rw[Ym,Ym];rfl
noncomputable def bH (H:Hp)(z:Addr×(Str×Str)):Prop:=H z.1=some (.tup [.str z.2.1,.str z.2.2])
noncomputable abbrev refs (zs:List (Addr×(Str×Str))):List V:=zs.map fun z=>V.ref z.1
noncomputable def qa (K:Jd):Sp:=fun vs H Q _=>pO fun(l a:Addr) (cs:List Str) (p:Str×Str)=>vs=[.ref l,.ref a]/\H l=some (.lst (cs.map V.str))/\bH H (a,p)/\cs.length<=16/\1<=p.1.length/\p.1.length<=12/\1<=p.2.length/\p.2.length<=12 /\
 ∀(zs:List (Addr×(Str×Str))) (r:Addr) (H':Hp),aw H H'->H r=none->H' r=some (.lst (refs zs))->zs.map (·.2)=gE cs p->(∀z∈zs,bH H' z)->Q (.ref r) H'
theorem bH.same {H H':Hp}{z:Addr×(Str×Str)}(h:bH H z)(s:aw H H'):bH H' z:=s _ _ h
theorem nF {cs:List Str}(h:cs.length<=16)(x:Str):(bZ cs x).length<=16:=by
 unfold bZ;split
 ·show 1<=16;decide
 ·exact h
theorem sJ {K:Jd}{σ:L2.St}{i:Nat}{l:Addr}{z:Str}{cs:List Str}{H:Hp}{Qn:VK}(h0: σ[0]? = some (some (.ref l)))(hi: σ[i]? = some (some (.str z)))(hz:z.length<=12)(hl:H l=some (.lst (cs.map V.str)))
  (k:∀p H4,aw H H4->H4 p=some (.lst ((bZ cs z).map V.str))->(p=l∨H p=none)->Qn (.ref p) H4) :
  Ez (xK (Ci (yz fun i j=>V.bl (decide (j<i))) (ER (fun xs H Q=>∃x n,xs=[x]/\yL K x H n/\Q (V.int (n:Nat)) H) (qb (tm i) xc)) (tC (V.int 1)))) (sF (qb (HZ (B2 K) (tm i) (xm (tC (V.int 1))) fL) xc)) (tm 0) σ H Qn:=by
 refine⟨_,hi,_,_,rfl,⟨sizeOk (by omega),rfl⟩,_,_,rfl,rfl,_,rfl,eK (fun c =>?_) (fun c=>⟨_,h0,k l H (aw.refl _) ?_ (.inl rfl)⟩)⟩
 ·have c:=of_decide_eq_true c
  refine⟨_,hi,_,rfl,?_⟩
  dsimp only[fL]
  refine .inr ⟨z,rfl,sizeOk (by omega),by show 1<=sizeLine;decide,fun r H4 n4=>k r H4 n4.same ?_ (.inr n4.nn)⟩
  unfold bZ;rw[if_pos (by omega)];exact n4.at
 ·unfold bZ;rw[if_neg (fun z=>c (decide_eq_true (by omega)))];exact hl
section
variable {P:Program}{w:World}{K:Jd}{mg:Str->Option Value}{base:Heap}{f:Addr}{fd:FuncData}
theorem cF:bb ["_law_codes", "_law_pair", "_law_one", "_law_other", "_law_found", "_law_first"] ["_law_codes", "_law_pair"] (aF (top ff)):=⟨rfl,rfl,rfl,by decide +kernel,rfl,by decide +kernel,by decide +kernel⟩
theorem zL (F:d5 K "_law_steps" "_law_steps" (top ff) f fd)(T:Nm mg):cf P w K mg base ir 1 f fd ["_law_codes", "_law_pair"] (qa K):=by
 refine F.ok cF (fun vs H Q E h =>?_) (fun dS A outer s H vs Q E hr h =>?_)
 ·obtain⟨l,a,cs,p,rfl,_⟩:=h
  rfl
 unfold qa at h
 refine ae.el h _ ?_
 clear h
 rintro l a cs p rfl hl hp cl x0 x1 y0 y1 q
 obtain⟨x,y⟩:=p
 have hW:=hr.units
 have small:∀{n:Nat},n<=1000->n<sizeLine:=fun h=>Uc h (by decide)
 have ex:x.length=(sg x).length:=str_len x
 have ey:y.length=(sg y).length:=str_len y
 dsimp only at x0 x1 y0 y1
 obtain⟨cx,sx,hx⟩:∃c r,sg x=c::r:=by
  cases h:sg x with
  | nil=>rw[h] at ex;simp at ex;omega
  | cons c r=>exact⟨c,r,rfl⟩
 obtain⟨cy,sy,hy⟩:∃c r,sg y=c::r:=by
  cases h:sg y with
  | nil=>rw[h] at ey;simp at ey;omega
  | cons c r=>exact⟨c,r,rfl⟩
 have ax:oJ x.cps.toList 0=some cx:=lQ (by decide) (by show(sg x)[0]? = _;rw[hx];rfl)
 have ay:oJ y.cps.toList 0=some cy:=lQ (by decide) (by show(sg y)[0]? = _;rw[hy];rfl)
 refine⟨_,(ah (pd (pv 1) (tupK K 2 rfl (aJ (ak (i:=2) cF.nd rfl (Or.inl rfl)) (aJ (ak (i:=3) cF.nd rfl (Or.inl rfl)) cL))))
  (ah (cR (aI (rS K hW) (kI (Ar K) (pv 2) ar (fun _ _=>rfl)) (kI (Ar K) (pv 3) ar (fun _ _=>rfl)) (aQ _)) (ao (aX (dm ag))) bu)
  (ah (cR (PW.pt (ja (aI (Am K hW) (az (dP K) rfl T.n_len (by rfl) (aa (pv 2) ag)) ar (aQ _)) (gT (aI (Am K hW) (az (dP K) rfl T.n_len (by rfl) (aa (pv 3) ag)) ar (aQ _))))) (ao (aX (dm (aa (gK (aa aZ (aa aZ ag))) ag)))) bu)
  (ah (aG (i:=4) cF.nd rfl (Or.inl rfl) (dm ag))
  (ah (cT PassesOwn.never rfl (iz K (fu (aI xr (az (dP K) rfl T.n_len (by rfl) (aa (pv 2) ag)) ar (aQ _)) (dm (aa (cD (zP K) (pv 2) (cZ ar) dc) ag)) (pv 0))) (ak (i:=5) cF.nd rfl (Or.inr rfl)) (ao (cY (rA K PySem.F.plainAttrs_list PySem.F.slot_list_extend PySem.F.type_list_extend iL (pv 4) (aa (bR rfl (aO (Nc:=["_law_second"]) (Fc:=["_law_first"]) (js:=[5])) (iz K (fu (aI xr (az (dP K) rfl T.n_len (by rfl) (aa (pv 3) ag)) ar (aQ _)) (dm (aa (cD (zP K) (pv 3) (cZ ar) dc) ag)) (pv 0))) (aD (i:=0) (n:=1) (by decide)) (fun _ _ _ _ _=>(ak (i:=0) (fJ ["_law_second", "_law_first"]) rfl (Or.inl rfl))) (fun _ _ _ _ _=>bJ) (fun _ _ _ _ _=>(gK (aa (pv 1) (aa (pv 0) ag))))) ag)))))
  (ao (aX (pv 4)))))))),?_⟩
 refine⟨_,rfl,a,_,rfl,iC.of hp,rfl,_,_,rfl,_,_,rfl,rfl,?_⟩
 refine⟨_,rfl,.inr (.inr ⟨x,_,cx,rfl,rfl,sizeOk (by omega),ax,_,rfl,.inr (.inr ⟨y,_,cy,rfl,rfl,sizeOk (by omega),ay,.inl ⟨rfl,_,rfl,?_⟩⟩)⟩)⟩
 have GL:(!decide (V.str ⟨#[cx]⟩=V.str ⟨#[cy]⟩))=true↔(sg x).head? ≠ (sg y).head?:=by
  rw[hx,hy]
  by_cases h:cx=cy
  ·subst h;simp
  ·rw[decide_eq_false (fun z=>h (by injection z with z;injection z with z;simpa using z))]
   exact⟨fun _ z=>h (Option.some.inj z),fun _=>rfl⟩
 refine eK (fun c=>⟨by show 0<=sizeLine;decide,fun r H1 n1=>q [] r H1 n1.same n1.nn n1.at ?_ (fun z h=>nomatch h)⟩) (fun c =>?_)
 ·unfold gE;rw[if_pos (.inl (GL.mp c))];rfl
 have iB:¬((sg x).head? ≠ (sg y).head? ∨ sg x=[]):=fun z=>z.elim (fun z=>c (GL.mpr z)) fun z=>by rw[hx] at z;cases z
 dsimp only[sO]
 refine bW (t:=nU _ _ _) (fun σ H'=>H'=H /\ σ=[some (.ref l),some (.ref a),some (.str x),some (.str y),none,none]/\¬(x.length=1/\y.length=1)) (fun Nx nx =>?_) ?_
 ·refine⟨_,rfl,_,_,rfl,⟨sizeOk (by omega),rfl⟩,.inl ⟨rfl,_,rfl,eK (fun c1 =>?_) (fun c1=>cM (nx _ _ ⟨rfl,rfl,fun z=>c1 ?_⟩))⟩⟩
  ·refine⟨_,rfl,_,_,rfl,⟨sizeOk (by omega),rfl⟩,.inl ⟨rfl,_,rfl,eK (fun c2 =>?_) (fun c2=>nx _ _ ⟨rfl,rfl,fun z=>c2 ?_⟩)⟩⟩
   ·refine⟨by show 2<=sizeLine;decide,fun t H1 n1=>⟨by show 1<=sizeLine;decide,fun r H2 n2=>q [(t,eP)] r H2 (n1.same.trans n2.same) (n1.back n2.nn) n2.at ?_ (fun z hz =>?_)⟩⟩
    ·unfold gE
     rw[if_neg iB,if_pos];rfl
     have e1:=of_decide_eq_true c1
     have e2:=of_decide_eq_true c2
     injection e1 with e1;injection e2 with e2
     exact⟨by show x.length=1;omega,by show y.length=1;omega⟩
    ·rw[Jb.mp hz];exact n2.same _ _ n1.at
   ·rw[z.2];rfl
  ·rw[z.1];rfl
 rintro σ H1 ⟨rfl,rfl,h11⟩
 refine⟨by show 0<=sizeLine;decide,fun pl H2 n2=>gn ?_⟩
 have BR:H1 pl=none:=n2.nn
 have JR:gE cs (x,y)=(bZ cs x).flatMap fun f=>(bZ cs y).map fun s=>(f,s):=by
  unfold gE;rw[if_neg iB,if_neg h11]
 rw[JR] at q
 have fl:=nF cl x
 have B5:=nF cl y
 obtain⟨fs,hfs⟩:∃fs,fs=bZ cs x:=⟨_,rfl⟩
 obtain⟨ss,hss⟩:∃ss,ss=bZ cs y:=⟨_,rfl⟩
 rw[<-hfs] at q fl
 rw[<-hss] at q B5
 have Lr:fs.length=1∨ss.length=1:=by
  rw[hfs,hss];unfold bZ
  by_cases h1:1<x.length
  ·rw[if_pos h1];exact .inl rfl
  ·by_cases h2:1<y.length
   ·rw[if_pos h2];exact .inr rfl
   ·exact absurd ⟨by omega,by omega⟩ h11
 dsimp only
 have eO:∀{xs:List Str} {i:Nat} (hi:i<xs.length),(xs.map V.str)[i]? = some (.str xs[i]):=fun hi=>by rw[Jn,Jf hi];rfl
 refine bW (t:=lA _ _ _) (fun σ H'=>bV fun(x5:Option V) (zs:List (Addr×(Str×Str))) =>σ=[some (.ref l),some (.ref a),some (.str x),some (.str y),some (.ref pl),x5]/\aw H1 H'/\H' pl=some (.lst (refs zs))/\zs.map (·.2)=fs.flatMap (fun f=>ss.map fun s=>(f,s))/\∀z∈zs,bH H' z) (fun Nx nx =>?_) ?_
 ·refine sJ (K:=K) (i:=2) (cs:=cs) (l:=l) (z:=x) rfl rfl x1 (n2.same _ _ hl) fun p H3 s3 hp3 hpn=>⟨p,rfl,⟨_,aB.of hp3⟩,?_⟩
  rw[<-hfs] at hp3
  have Ep:=n2.same.trans s3
  have Kz:l≠pl:=ai hl n2.nn
  have KO:p≠pl:=hpn.elim (fun e=>e▸Kz) fun e z=>by rw[z,n2.at] at e;cases e
  refine dJ (N:=fs.length) (fun i σ H'=>bV fun(x5:Option V) (zs:List (Addr×(Str×Str))) =>σ=[some (.ref l),some (.ref a),some (.str x),some (.str y),some (.ref pl),x5]/\aw H1 H'/\H' p=some (.lst (fs.map V.str))/\H' pl=some (.lst (refs zs))/\zs.map (·.2)=(fs.take i).flatMap (fun f=>ss.map fun s=>(f,s))/\∀z∈zs,bH H' z) ⟨_,[],rfl,Ep,hp3,s3 _ _ n2.at,rfl,fun z h=>nomatch h⟩ ?_ ?_
  ·intro i σ H4 hi
   refine ae.go ?_
   rintro x5 zs rfl s4 hp4 hpl4 ez hz
   refine⟨⟨_,_,aB.of hp4,eO hi⟩,?_⟩
   rintro v H5 ⟨rfl,hv⟩
   have e:=hv _ (aB.of hp4)
   rw[eO hi] at e;cases e
   refine gn ?_
   have ck:=aA hi
   generalize fs[i]=fi at ck
   dsimp only
   refine⟨_,rfl,.inl ⟨rfl,_,aB.of hpl4⟩,?_⟩
   refine sJ (K:=K) (i:=3) (cs:=cs) (l:=l) (z:=y) rfl rfl y1 (s4 _ _ hl) fun p6 H6 s6 wC hpn6=>⟨p6,rfl,⟨_,aB.of wC⟩,?_⟩
   rw[<-hss] at wC
   refine bA (N:=ss.length) (fun k ys H'=>∃ws:List (Addr×(Str×Str)),ys=refs ws/\aw H6 H'/\ws.map (·.2)=(ss.take k).map (fun s=>(fi,s))/\∀z∈ws,bH H' z) ⟨[],rfl,aw.refl _,rfl,fun z h=>nomatch h⟩ ?_ ?_
   ·intro k ys H7 Ny hk hz_ ny
    refine ae.el hz_ _ ?_
    clear hz_
    rintro ws rfl s7 ew hw
    have wl:ws.length=k:=by
     have:=congrArg Ue ew
     rw[Ja,Ja,J3] at this
     omega
    refine⟨⟨_,_,aB.of (s7 _ _ wC),eO hk⟩,small (by rw[Ja];omega),?_⟩
    rintro v H8 ⟨rfl,hv⟩
    have e:=hv _ (aB.of (s7 _ _ wC))
    rw[eO hk] at e;cases e
    refine gn ?_
    dsimp only[lz]
    rw[if_pos rfl]
    refine⟨_,rfl,_,rfl,by show 2<=sizeLine;decide,fun t H9 n9=>ny _ _ ⟨ws++[(t,(fi,ss[k]))],by unfold refs;rw[Jh];rfl,s7.trans n9.same,?_,fun z hz =>?_⟩⟩
    ·rw[Jh,ew,aA hk,Jh];rfl
    ·rcases Jj.mp hz with hz|hz
     ·exact(hw z hz).same n9.same
     ·rw[Jb.mp hz];exact n9.at
   ·intro ys H7
    refine ae.go ?_
    rintro ws rfl s7 ew hw
    rw[J0] at ew
    have wl:ws.length=ss.length:=by
     have:=congrArg Ue ew
     rw[Ja,Ja] at this
     exact this
    refine⟨⟨_,aB.of (s7 _ _ wC),by rw[Ja];exact Je _⟩,fun t ht =>?_⟩
    obtain⟨H8,n8⟩:∃H8,dz H7 t (.lst (refs ws)) H8:=⟨_,ht,rfl⟩
    rw[<-n8.eq]
    have BE:=(s6.trans s7).trans n8.same
    have zl:zs.length<=16*i:=by
     have:=congrArg Ue ez
     rw[Ja,List.length_flatMap] at this
     rw[this]
     have:((fs.take i).map fun f=>(ss.map fun s=>(f,s)).length).sum<=16*(fs.take i).length:=by
      generalize fs.take i=gs
      induction gs with
      | nil=>exact Je _
      | cons g gs ih=>rw[Ui,List.sum_cons,J1,Ja];omega
     rw[J3] at this
     exact Jq this (Nat.mul_le_mul_left _ (Nat.min_le_left _ _))
    refine⟨pl,t,_,_,rfl,rfl,BE _ _ hpl4,n8.at,by rw[Ja,Ja];exact sizeOk (by omega),fun H9 c9=>⟨_,zs++ws,rfl,fun b o e =>?_,?_,?_,?_,fun z hz' =>?_⟩⟩
    ·rw[c9.ne (ai e BR)];exact BE _ _ (s4 b o e)
    ·rw[c9.ne KO];exact BE _ _ hp4
    ·rw[c9.at];unfold refs;rw[Jh]
    ·rw[Jh,ez,ew,ck,List.flatMap_append,List.flatMap_cons,List.flatMap_nil,Ut]
    ·have hold:∀{b:Addr} {us:List V},H8 b=some (.tup us)->H9 b=some (.tup us):=fun{b us} e=>by
      rw[c9.ne (fun z=>by rw[z,BE _ _ hpl4] at e;cases e)];exact e
     rcases Jj.mp hz' with hz'|hz'
     ·exact hold (BE _ _ (hz z hz'))
     ·exact hold (n8.same _ _ (hw z hz'))
  ·intro σ H4
   refine ae.go ?_
   rintro x5 zs rfl s4 hp4 hpl4 ez hz
   rw[J0] at ez
   exact⟨⟨_,aB.of hp4,by rw[Ja];exact Je _⟩,nx _ _ ⟨x5,zs,rfl,s4,hpl4,ez,hz⟩⟩
 intro σ H3
 refine ae.go ?_
 rintro x5 zs rfl s3 kF ez hz
 exact⟨_,rfl,q zs pl H3 s3 BR kF ez hz⟩
end
structure jQ (cs:List Str):Prop where
 le:cs.length<=16
 cd:∀c∈cs,aY 12 c
noncomputable def l8 (cs:List Str)(x:Str):Prop:=∃c∈cs,∃a,a<(sg c).length/\sg x=(sg c).drop a
noncomputable def eR (cs:List Str)(p:Str×Str):Prop:=l8 cs p.1/\l8 cs p.2
theorem l8.code {cs:List Str}(g:jQ cs){c:Str}(h:c∈cs):l8 cs c:=⟨c,h,0,by have:=(g.cd c h).pos;have e:c.length=(sg c).length:=str_len c;omega,rfl⟩
theorem l8.len {cs:List Str}(g:jQ cs){x:Str}(h:l8 cs x):1<=x.length/\x.length<=12:=by
 obtain⟨c,hc,a,ha,e⟩:=h
 have h1:=(g.cd c hc).le
 have e1:c.length=(sg c).length:=str_len c
 have e2:x.length=(sg x).length:=str_len x
 rw[e,Uw] at e2
 omega
theorem l8.bin {cs:List Str}(g:jQ cs){x:Str}(h:l8 cs x):jL x:=fun ch hc=>by
 obtain⟨c,jT,a,ha,e⟩:=h
 have hc:ch∈sg x:=hc
 rw[e] at hc
 exact(g.cd c jT).bin ch (List.mem_of_mem_drop hc)
theorem l8.tl {cs:List Str}{x:Str}(h:l8 cs x)(h1:1<x.length):l8 cs (FU x):=by
 obtain⟨c,hc,a,ha,e⟩:=h
 have e2:x.length=(sg x).length:=str_len x
 refine⟨c,hc,a+1,?_,?_⟩
 ·rw[e,Uw] at e2;omega
 ·rw[uv,e,List.tail_drop]
theorem l8.first {cs:List Str}(g:jQ cs){x y:Str}(h:l8 cs x)(hy:y∈bZ cs x):l8 cs y:=by
 unfold bZ at hy
 split at hy
 ·rw[Jb.mp hy];exact h.tl (by assumption)
 ·exact l8.code g hy
theorem eR.next {cs:List Str}(g:jQ cs){p q:Str×Str}(h:eR cs p)(hq:q∈gE cs p):q=eP∨eR cs q:=by
 unfold gE at hq
 split at hq
 ·cases hq
 ·split at hq
  ·exact .inl (Jb.mp hq)
  ·obtain⟨f,hf,hq⟩:=List.mem_flatMap.mp hq
   obtain⟨s,hs,rfl⟩:=Jv.mp hq
   exact .inr ⟨h.1.first g hf,h.2.first g hs⟩
noncomputable def yb (cs:List Str):List Str:=cs.flatMap fun c=>(Wh (sg c).length).map fun a=>⟨((sg c).drop a).toArray⟩
theorem l8.mem {cs:List Str}{x:Str}(h:l8 cs x):x∈yb cs:=by
 obtain⟨c,hc,a,ha,e⟩:=h
 refine List.mem_flatMap.mpr ⟨c,hc,Jv.mpr ⟨a,List.mem_range.mpr ha,dN ?_⟩⟩
 show((sg c).drop a).toArray.toList=_
 rw[Yh];exact e.symm
theorem vm {cs:List Str}(h:∀c∈cs,aY 12 c):(yb cs).length<=12*cs.length:=by
 induction cs with
 | nil=>exact Je _
 | cons c cs ih=>
  have h1:=ih fun x hx=>h x (Jo _ hx)
  have h2:=(h c Jp).le
  have e:c.length=(sg c).length:=str_len c
  show(((Wh (sg c).length).map _)++yb cs).length<=_
  rw[Jg,Ja,Y1,J1]
  omega
noncomputable def we (cs:List Str):List (Str×Str):=eP::(yb cs).flatMap fun x=>(yb cs).map fun y=>(x,y)
theorem uW {cs:List Str}(g:jQ cs):(we cs).length<=40000:=by
 have h1:=vm g.cd
 have h2:=g.le
 have key:∀(l m:List Str),(l.flatMap fun x=>m.map fun y=>(x,y)).length=l.length*m.length:=fun l m=>by
  induction l with
  | nil=>simp
  | cons a l ih=>rw[List.flatMap_cons,Jg,ih,Ja,J1,Nat.succ_mul];omega
 unfold we
 rw[J1,key]
 have:(yb cs).length*(yb cs).length<=192*192:=Nat.mul_le_mul (by omega) (by omega)
 omega
theorem eR.mem {cs:List Str}{p:Str×Str}(h:p=eP∨eR cs p):p∈we cs:=by
 rcases h with rfl|⟨h1,h2⟩
 ·exact Jp
 ·exact Jo _ (List.mem_flatMap.mpr ⟨p.1,h1.mem,Jv.mpr ⟨p.2,h2.mem,rfl⟩⟩)
noncomputable def pk (p:Str×Str):List Key:=[.inr p.1,.inr p.2]
theorem i0 {p q:Str×Str}(h:pk p=pk q):p=q:=by
 obtain⟨a,b⟩:=p
 obtain⟨c,d⟩:=q
 injection h with h1 h2
 injection h2 with h2 _
 injection h1 with h1
 injection h2 with h2
 rw[show a=c from h1,show b=d from h2]
noncomputable def jP (r:(Str×Str)×Addr):List Key×V:=(pk r.1,.ref r.2)
noncomputable def fA (cs:List Str)(H:Hp)(r:(Str×Str)×Addr):Prop:=∃zs,H r.2=some (.lst (refs zs))/\zs.map (·.2)=gE cs r.1/\∀z∈zs,bH H z
theorem fA.same {cs:List Str}{H H':Hp}{r:(Str×Str)×Addr}(h:fA cs H r)(s:aw H H'):fA cs H' r:=by
 obtain⟨zs,h1,h2,h3⟩:=h
 exact⟨zs,s _ _ h1,h2,fun z hz=>(h3 z hz).same s⟩
theorem bH.chg {H H':Hp}{a:Addr}{o u:HO}(c:iO H a o H')(ha:H a=some u)(nt:∀xs,u ≠ .tup xs){z:Addr×(Str×Str)}(h:bH H z):bH H' z:=by
 unfold bH
 rw[c.ne (fun e=>by have h:=h;unfold bH at h;rw[e,ha] at h;exact nt _ (Option.some.inj h))]
 exact h
theorem fA.chg {cs:List Str}{H H':Hp}{a:Addr}{o u:HO}(c:iO H a o H')(ha:H a=some u)(nt:∀xs,u ≠ .tup xs){r:(Str×Str)×Addr}(h:fA cs H r)(ne:r.2≠a):fA cs H' r:=by
 obtain⟨zs,h1,h2,h3⟩:=h
 exact⟨zs,by rw[c.ne ne];exact h1,h2,fun z hz=>(h3 z hz).chg c ha nt⟩
structure C5 (cs:List Str)(rs:List ((Str×Str)×Addr)):Prop where
 nd:(rs.map (·.1)).Nodup
 le:rs.length<=40000
 fin:eP∈rs.map (·.1)
 ok:∀p∈rs.map (·.1),p=eP∨(eR cs p/\Rc (cs.map sg) (gC p))
 ini:∀d∈cs,∀a,1<=a->a<(sg d).length->∀p:Str×Str,sg p.1=(sg d).drop a->p.2∈cs->p∈rs.map (·.1)
 cl:∀p∈rs.map (·.1),∀q∈gE cs p,q∈rs.map (·.1)
noncomputable def qg (K:Jd):Sp:=fun vs H Q _=>bV fun(l:Addr) (cs:List Str)=>vs=[.ref l]/\H l=some (.lst (cs.map V.str))/\jQ cs /\
 ∀(d:Addr) (rs:List ((Str×Str)×Addr)) (H':Hp),aw H H'->H d=none->H' d=some (.dT (rs.map jP))->C5 cs rs->(∀r∈rs,fA cs H' r)->Q (.ref d) H'
theorem uM {K:Jd}{H:Hp}:∀{ws:List (Addr×(Str×Str))},(∀z∈ws,bH H z)->aR K H (ws.map fun z =>.tuple [.str z.2.1,.str z.2.2]) (refs ws)
 | [],_=>by unfold aR;rfl
 | z::ws,h=>by
  unfold refs
  rw[Ui,Ui]
  unfold aR
  refine⟨_,_,rfl,?_,uM fun y hy=>h y (Jo _ hy)⟩
  unfold Den
  refine⟨z.1,_,rfl,iC.of (h z Jp),?_⟩
  unfold aR
  refine⟨_,_,rfl,by unfold Den;rfl,?_⟩
  unfold aR
  refine⟨_,_,rfl,by unfold Den;rfl,?_⟩
  unfold aR;rfl
theorem Fv {ws:List (Addr×(Str×Str))}(h:∀z∈ws,jL z.2.1/\jL z.2.2):SeqAt.shaped (.list (ws.map fun z =>.tuple [.str z.2.1,.str z.2.2]))=true:=(Sh.list (n:=1) fun d hd=>by
 obtain⟨z,hz,rfl⟩:=Jv.mp hd
 refine Sh.tuple fun e he =>?_
 simp at he
 rcases he with rfl|rfl
 ·exact Sh.str (cC fun ch hc=>by rcases(h z hz).1 ch hc with e|e<;>omega)
 ·exact Sh.str (cC fun ch hc=>by rcases(h z hz).2 ch hc with e|e<;>omega)).shaped (by decide)
theorem mS (rs:List ((Str×Str)×Addr)):(rs.map jP).map (·.1)=(rs.map (·.1)).map pk:=by rw[Ym,Ym];rfl
theorem sY {rs:List ((Str×Str)×Addr)}{p:Str×Str}:(aq (rs.map jP) (pk p)).isSome=true↔p∈rs.map (·.1):=by
 cases hv:aq (rs.map jP) (pk p) with
 | none=>
  refine⟨(fun h=>nomatch h),fun h=>absurd ?_ (e7 hv)⟩
  rw[mS];exact Jz h
 | some v=>
  refine⟨fun _ =>?_,fun _=>rfl⟩
  have:=iT hv
  rw[mS] at this
  obtain⟨x,hx,e⟩:=Jv.mp this
  rw[<-i0 e];exact hx
theorem kW {cs:List Str}(h:cs.length<=16)(p:Str×Str):(gE cs p).length<=16:=by
 have key:∀(l m:List Str),(l.flatMap fun x=>m.map fun y=>(x,y)).length=l.length*m.length:=fun l m=>by
  induction l with
  | nil=>simp
  | cons a l ih=>rw[List.flatMap_cons,Jg,ih,Ja,J1,Nat.succ_mul];omega
 unfold gE
 split
 ·decide
 ·split
  ·decide
  ·rename_i h0 h1
   rw[key]
   unfold bZ
   have mX:1<=p.1.length:=by
    have e:p.1.length=(sg p.1).length:=str_len _
    cases h:sg p.1 with
    | nil=>exact absurd (.inr h) h0
    | cons a r=>rw[e,h];simp
   have zF:1<=p.2.length:=by
    have e:p.2.length=(sg p.2).length:=str_len _
    cases h:sg p.2 with
    | nil=>
     cases h':sg p.1 with
     | nil=>exact absurd (.inr h') h0
     | cons a r=>exact absurd (.inl (by rw[h,h'];simp)) h0
    | cons a r=>rw[e,h];simp
   by_cases c1:1<p.1.length
   ·rw[if_pos c1]
    show 1*_<=16
    split
    ·show 1*1<=16;decide
    ·omega
   ·rw[if_neg c1,if_pos (by omega)]
    show _*1<=16
    omega
section
variable {P:Program}{w:World}{K:Jd}{mg:Str->Option Value}{base:Heap}{f:Addr}{fd:FuncData}
theorem cb:bb ["_law_codes", "_law_waiting", "_law_code", "_law_place", "_law_found", "_law_pair"] ["_law_codes"] (aF (top fv)):=⟨rfl,rfl,rfl,by decide +kernel,rfl,by decide +kernel,by decide +kernel⟩
theorem zG (F:d5 K "_law_pairs" "_law_pairs" (top fv) f fd)(T:Nm mg)(mH:Fn P w K mg base 1 "_law_steps" ["_law_codes", "_law_pair"] (qa K)):cf P w K mg base ir 2 f fd ["_law_codes"] (qg K):=by
 refine F.ok cb (fun vs H Q E h =>?_) (fun dS A outer s H vs Q E hr h =>?_)
 ·obtain⟨l,cs,rfl,_⟩:=h
  rfl
 unfold qg at h
 refine ae.el h _ ?_
 clear h
 rintro l cs rfl hl g q
 have hu:=jE hr
 have hW:=hr.units
 have hle:=g.le
 have small:∀{n:Nat},n<=1000->n<sizeLine:=fun h=>Uc h (by decide)
 have big:∀{n:Nat},n<=5000000->n<sizeLine:=fun h=>Uc h (by decide)
 have eO:∀{xs:List Str} {i:Nat} (hi:i<xs.length),(xs.map V.str)[i]? = some (.str xs[i]):=fun hi=>by rw[Jn,Jf hi];rfl
 refine⟨_,(ah (aG (i:=1) cb.nd rfl (Or.inl rfl) (dm ag))
  (ah (cT PassesOwn.never rfl (iz K (pv 0)) (ak (i:=2) cb.nd rfl (Or.inr rfl)) (ao (cT PassesOwn.never rfl (gW rfl T.n_range (aa ar (aa (az (dP K) rfl T.n_len (by rfl) (aa (pv 2) ag)) ag))) (ak (i:=3) cb.nd rfl (Or.inr rfl)) (ao (cY (rA K PySem.F.plainAttrs_list PySem.F.slot_list_extend PySem.F.type_list_extend iL (pv 1) (aa (bR rfl (aO (Nc:=["_law_other"]) (Fc:=["_law_code", "_law_place"]) (js:=[2,3])) (iz K (pv 0)) (aD (i:=0) (n:=1) (by decide)) (fun _ _ _ _ _=>(ak (i:=0) (fJ ["_law_other", "_law_code", "_law_place"]) rfl (Or.inl rfl))) (fun _ _ _ _ _=>bJ) (fun _ _ _ _ _=>(gK (aa (cD (zP K) (pv 1) (cZ (pv 2)) dc) (aa (pv 0) ag))))) ag)))))))
  (ah (aG (i:=4) cb.nd rfl (Or.inl rfl) (mh hu (gK (aa aZ (aa aZ ag))) (dm ag)))
  (ah (gF PassesOwn.never (aI (rS K hW) (pv 1) (dm ag) (aQ _)) (ah (aG (i:=5) cb.nd rfl (Or.inl rfl) (D7 K PySem.F.plainAttrs_list PySem.F.slot_list_pop PySem.F.type_list_pop FT (pv 1)))
  (ao (cR (ic (fE hu (pv 5) (pv 4))) (ah (gI hu (pv 4) (pv 5) (bp (mH.mono (by decide)) hr rfl (aa (pv 0) (aa (pv 5) ag))) rfl)
  (ao (cY (rA K PySem.F.plainAttrs_list PySem.F.slot_list_extend PySem.F.type_list_extend iL (pv 1) (aa (cc hu (pv 4) (pv 5) (fun _ _=>rfl)) ag))))) bu))))
  (ao (aX (pv 4))))))),?_⟩
 refine⟨by show 0<=sizeLine;decide,fun wp H1 n1=>gn ?_⟩
 have Aw:H wp=none:=n1.nn
 have lw:l≠wp:=ai hl Aw
 dsimp only
 refine bW (t:=lA _ _ _) (fun σ H'=>dR fun(x2 x3:Option V) (ws:List (Addr×(Str×Str))) =>σ=[some (.ref l),some (.ref wp),x2,x3,none,none]/\aw H H'/\H' wp=some (.lst (refs ws))/\ws.length<=4000/\(∀z∈ws,bH H' z/\eR cs z.2/\Rc (cs.map sg) (gC z.2))/\∀d∈cs,∀a,1<=a->a<(sg d).length->∀p:Str×Str,sg p.1=(sg d).drop a->p.2∈cs->p∈ws.map (·.2)) (fun Nx nx =>?_) ?_
 ·refine⟨_,rfl,l,rfl,⟨_,aB.of (n1.same _ _ hl)⟩,?_⟩
  refine dJ (N:=cs.length) (fun i σ H'=>dR fun(x2 x3:Option V) (ws:List (Addr×(Str×Str))) =>σ=[some (.ref l),some (.ref wp),x2,x3,none,none]/\aw H H'/\H' wp=some (.lst (refs ws))/\ws.length<=200*i/\(∀z∈ws,bH H' z/\eR cs z.2/\Rc (cs.map sg) (gC z.2))/\∀d∈cs.take i,∀a,1<=a->a<(sg d).length->∀p:Str×Str,sg p.1=(sg d).drop a->p.2∈cs->p∈ws.map (·.2)) ⟨_,_,[],rfl,n1.same,n1.at,Je _,(fun z h=>nomatch h),fun d h=>nomatch h⟩ ?_ ?_
  ·intro i σ H2 hi
   refine ae.go ?_
   rintro x2 x3 ws rfl s2 hw2 wl wz wc
   refine⟨⟨_,_,aB.of (s2 _ _ hl),eO hi⟩,?_⟩
   rintro v H3 ⟨rfl,hv⟩
   have e:=hv _ (aB.of (s2 _ _ hl))
   rw[eO hi] at e;cases e
   refine gn ?_
   have hm:=Jw hi
   have hc:=g.cd _ hm
   have ck:=aA hi
   generalize cs[i]=c at hm hc ck
   have IL:=hc.pos
   have yB:=hc.le
   have ec:c.length=(sg c).length:=str_len c
   dsimp only
   refine⟨_,rfl,_,_,rfl,⟨sizeOk (by omega),rfl⟩,1,(c.length:Nat),rfl,⟨by omega,by omega,by omega,by omega⟩,?_⟩
   refine dJ (N:=c.length-1) (fun k σ H'=>bV fun(x3:Option V) (ws:List (Addr×(Str×Str))) =>σ=[some (.ref l),some (.ref wp),some (.str c),x3,none,none]/\aw H H'/\H' wp=some (.lst (refs ws))/\ws.length<=200*i+16*k/\(∀z∈ws,bH H' z/\eR cs z.2/\Rc (cs.map sg) (gC z.2))/\(∀d∈cs.take i,∀a,1<=a->a<(sg d).length->∀p:Str×Str,sg p.1=(sg d).drop a->p.2∈cs->p∈ws.map (·.2))/\∀a,1<=a->a<=k->∀p:Str×Str,sg p.1=(sg c).drop a->p.2∈cs->p∈ws.map (·.2)) ⟨_,ws,rfl,s2,hw2,by omega,wz,wc,fun a h1 h2=>absurd h1 (by omega)⟩ ?_ ?_
   ·intro k σ H3 hk
    refine ae.go ?_
    clear wl wz wc hw2 s2
    rintro x3 ws rfl s3 Bd wl wz wc wd
    refine⟨by show k<_;omega,?_⟩
    rintro v H4 ⟨rfl,rfl⟩
    refine gn ?_
    refine⟨_,rfl,.inl ⟨rfl,_,aB.of Bd⟩,?_⟩
    have fP:=s3 _ _ hl
    refine⟨_,rfl,l,rfl,⟨_,aB.of fP⟩,?_⟩
    obtain⟨r,iI⟩:∃r,r=Txt.slice c (some ((1+k:Nat):Int)) none:=⟨_,rfl⟩
    have er:sg r=(sg c).drop (1+k):=by rw[iI];exact fz (x:=c) (1+k)
    refine bA (N:=cs.length) (fun j ys H'=>∃us:List (Addr×(Str×Str)),ys=refs us/\aw H4 H'/\us.map (·.2)=(cs.take j).map (fun o=>(r,o))/\∀z∈us,bH H' z) ⟨[],rfl,aw.refl _,rfl,fun z h=>nomatch h⟩ ?_ ?_
    ·intro j ys H5 Ny hj hz_ ny
     refine ae.el hz_ _ ?_
     clear hz_
     rintro us rfl s5 eu hu'
     have ul:us.length=j:=by
      have:=congrArg Ue eu
      rw[Ja,Ja,J3] at this
      omega
     refine⟨⟨_,_,aB.of (s5 _ _ fP),eO hj⟩,small (by rw[Ja];omega),?_⟩
     rintro v H6 ⟨rfl,hv⟩
     have e:=hv _ (aB.of (s5 _ _ fP))
     rw[eO hj] at e;cases e
     refine gn ?_
     dsimp only[lz]
     rw[if_pos rfl]
     refine⟨_,rfl,_,rfl,_,rfl,?_⟩
     dsimp only[fL]
     refine .inr ⟨c,rfl,sizeOk (by omega),?_⟩
     rw[show((1:Int)+(k:Int))=((1+k:Nat):Int) by omega,<-iI]
     refine⟨_,rfl,by show 2<=sizeLine;decide,fun t H7 n7=>ny _ _ ⟨us++[(t,(r,cs[j]))],by unfold refs;rw[Jh];rfl,s5.trans n7.same,?_,fun z hz =>?_⟩⟩
     ·rw[Jh,eu,aA hj,Jh];rfl
     ·rcases Jj.mp hz with hz|hz
      ·exact(hu' z hz).same n7.same
      ·rw[Jb.mp hz];exact n7.at
    ·intro ys H5
     refine ae.go ?_
     rintro us rfl s5 eu hu'
     rw[J0] at eu
     have ul:us.length=cs.length:=by
      have:=congrArg Ue eu
      rw[Ja,Ja] at this
      exact this
     refine⟨⟨_,aB.of (s5 _ _ fP),by rw[Ja];exact Je _⟩,fun t ht =>?_⟩
     obtain⟨H6,n6⟩:∃H6,dz H5 t (.lst (refs us)) H6:=⟨_,ht,rfl⟩
     rw[<-n6.eq]
     have GG:=s5.trans n6.same
     have oo:=GG _ _ Bd
     refine⟨wp,t,_,_,rfl,rfl,oo,n6.at,by rw[Ja,Ja];exact sizeOk (by omega),fun H7 c7=>⟨_,ws++us,rfl,fun b o e =>?_,?_,by rw[Jg];omega,fun z hz =>?_,fun d hd a h1 h2 p e1 e2 =>?_,fun a h1 h2 p e1 e2 =>?_⟩⟩
     ·rw[c7.ne (ai e Aw)];exact GG _ _ (s3 b o e)
     ·rw[c7.at];unfold refs;rw[Jh]
     ·rcases Jj.mp hz with hz|hz
      ·obtain⟨h1,h2⟩:=wz z hz
       exact⟨(h1.same GG).chg c7 oo (fun _ z=>nomatch z),h2⟩
      ·refine⟨((hu' z hz).same n6.same).chg c7 oo (fun _ z=>nomatch z),?_⟩
       have:z.2∈us.map (·.2):=Jz hz
       rw[eu] at this
       obtain⟨o,ho,e⟩:=Jv.mp this
       rw[<-e]
       refine⟨⟨⟨c,hm,1+k,by omega,er⟩,l8.code g ho⟩,?_⟩
       have:=Rc.start (cs:=cs.map sg) (1+k) (sg c) (sg o) (by omega) (by omega) (Jz hm) (Jz ho)
       rw[<-er] at this
       exact this
     ·rw[Jh];exact Jx _ (wc d hd a h1 h2 p e1 e2)
     ·rw[Jh]
      by_cases hak:a<=k
      ·exact Jx _ (wd a h1 hak p e1 e2)
      ·refine Ji _ ?_
       rw[eu]
       have ea:a=1+k:=by omega
       rw[ea,<-er] at e1
       refine Jv.mpr ⟨p.2,e2,?_⟩
       rw[<-dN e1]
   ·intro σ H3
    refine ae.go ?_
    clear wl wz wc hw2 s2
    rintro x3 ws rfl s3 Bd wl wz wc wd
    refine⟨by show _<=_;omega,_,_,ws,rfl,s3,Bd,by omega,wz,fun d hd a h1 h2 p e1 e2 =>?_⟩
    rw[ck] at hd
    rcases Jj.mp hd with hd|hd
    ·exact wc d hd a h1 h2 p e1 e2
    ·rw[Jb.mp hd] at h2 e1
     exact wd a h1 (by omega) p e1 e2
  ·intro σ H2
   refine ae.go ?_
   rintro x2 x3 ws rfl s2 hw2 wl wz wc
   rw[J0] at wc
   exact⟨⟨_,aB.of (s2 _ _ hl),by rw[Ja];exact Je _⟩,nx _ _ ⟨x2,x3,ws,rfl,s2,hw2,by omega,wz,wc⟩⟩
 intro σ H2
 refine ae.go ?_
 rintro x2 x3 ws rfl s2 hw2 wl wz wc
 refine fun d H3 n3=>⟨by show 2<=sizeLine;decide,fun t H4 n4=>⟨by show 0<=sizeLine;decide,fun e0 H5 n5=>⟨n5.same _ _ (n4.same _ _ n3.at),pk eP,t,rfl,n5.same _ _ n4.at,fun H6 c6=>gn ?_⟩⟩⟩
 have vb:=n5.same _ _ (n4.same _ _ n3.at)
 have Ge:=(n3.same.trans n4.same).trans n5.same
 have dw:d≠wp:=fun z=>by have:=n3.nn;rw[z,hw2] at this;cases this
 have u6:H d=none:=by
  cases e:H d with
  | none=>rfl
  | some o=>have:=n3.nn;rw[s2 _ _ e] at this;cases this
 have ew:e0≠wp:=fun z=>by have:=n5.nn;rw[z,n4.same _ _ (n3.same _ _ hw2)] at this;cases this
 have ed:e0≠d:=fun z=>by have:=n5.nn;rw[z,n4.same _ _ n3.at] at this;cases this
 have s6:aw H H6:=fun b o e=>by rw[c6.ne (ai e u6)];exact Ge _ _ (s2 b o e)
 have oo:H6 wp=some (.lst (refs ws)):=by rw[c6.ne (Ne.symm dw)];exact Ge _ _ hw2
 have Ke:H6 e0=some (.lst []):=by rw[c6.ne ed];exact n5.at
 have Ib:∀z∈ws,bH H6 z/\eR cs z.2/\Rc (cs.map sg) (gC z.2):=fun z hz=>⟨((wz z hz).1.same Ge).chg c6 vb (fun _ z=>nomatch z),(wz z hz).2⟩
 dsimp only
 let J:Nat->L2.St->Hp->Prop:=fun m σ H'=>dR fun(x5:Option V) (us:List (Addr×(Str×Str))) (rs:List ((Str×Str)×Addr)) =>σ=[some (.ref l),some (.ref wp),x2,x3,some (.ref d),x5]/\aw H H'/\H' wp=some (.lst (refs us))/\H' d=some (.dT (rs.map jP))/\us.length<=4000+16*rs.length/\(∀z∈us,bH H' z/\(z.2=eP∨eR cs z.2/\Rc (cs.map sg) (gC z.2)))/\(∀r∈rs,r.2≠wp/\r.2≠d/\fA cs H' r)/\(rs.map (·.1)).Nodup/\eP∈rs.map (·.1)/\(∀p∈rs.map (·.1),p=eP∨(eR cs p/\Rc (cs.map sg) (gC p)))/\(∀p∈ws.map (·.2),p∈us.map (·.2)∨p∈rs.map (·.1))/\(∀p∈rs.map (·.1),∀q∈gE cs p,q∈us.map (·.2)∨q∈rs.map (·.1))/\m=us.length+20*(40000-rs.length)
 have Hr:∀{rs:List ((Str×Str)×Addr)},(rs.map (·.1)).Nodup->(∀p∈rs.map (·.1),p=eP∨(eR cs p/\Rc (cs.map sg) (gC p)))->rs.length<=40000:=fun{rs} nd h=>by
  have:=Jq (bj (m:=we cs) nd fun x hx=>eR.mem ((h x hx).imp id fun z=>z.1)) (uW g)
  rwa[Ja] at this
 refine bW (t:=ig _ _) (fun σ H'=>dR fun(x5:Option V) (us:List (Addr×(Str×Str))) (rs:List ((Str×Str)×Addr)) =>σ=[some (.ref l),some (.ref wp),x2,x3,some (.ref d),x5]/\aw H H'/\H' d=some (.dT (rs.map jP))/\C5 cs rs/\∀r∈rs,fA cs H' r) (fun Nx nx =>?_) ?_
 ·refine iM J ⟨_,none,ws,[(eP,e0)],rfl,s6,oo,?_,by omega,fun z hz=>⟨(Ib z hz).1,.inr (Ib z hz).2⟩,fun r hr =>?_,by simp,by simp,fun p hp =>?_,fun p hp =>.inl hp,fun p hp q hq =>?_,rfl⟩ ?_
  ·rw[c6.at];rfl
  ·rw[Jb.mp hr]
   exact⟨ew,ed,[],Ke,rfl,fun z h=>nomatch h⟩
  ·simp at hp;exact .inl hp
  ·simp at hp
   rw[hp] at hq
   exact absurd hq (by unfold gE;rw[if_pos (.inr rfl)];exact fun z=>nomatch z)
  intro m σ H7
  refine ae.go ?_
  rintro x5 us rs rfl s7 xT vw ul uz rz nd fn ok ini cl rfl
  have rl:=Hr nd ok
  have uF:∀z∈us,jL z.2.1/\jL z.2.2:=fun z hz=>by
   rcases(uz z hz).2 with e|⟨⟨h1,h2⟩,_⟩
   ·rw[e];exact⟨(fun ch hc=>nomatch hc),fun ch hc=>nomatch hc⟩
   ·exact⟨h1.bin g,h2.bin g⟩
  refine⟨_,rfl,by show 0<=sizeLine;decide,fun p8 H8 n8 =>.inr ⟨_,_,Den.list (aB.of (n8.same _ _ xT)) (uM fun z hz=>(uz z hz).1.same n8.same),Den.list (aB.of n8.at) (by unfold aR;rfl),Fv uF,g9,_,rfl,?_⟩⟩
  rw[jd]
  rw[List.isEmpty_map]
  have s8:=s7.trans n8.same
  have wR:=n8.same _ _ xT
  have Hu:=n8.same _ _ vw
  by_cases hv:us=[]
  ·have e:(!us.isEmpty)=false:=by rw[hv];rfl
   rw[e]
   refine cM (nx _ _ ⟨x5,us,rs,rfl,s8,Hu,⟨nd,rl,fn,ok,fun d' hd' a h1 h2 p e1 e2=>(ini p (wc d' hd' a h1 h2 p e1 e2)).resolve_left ?_,fun p hp q hq=>(cl p hp q hq).resolve_left ?_⟩,fun r hr=>(rz r hr).2.2.same n8.same⟩)
   ·rw[hv];exact fun z=>nomatch z
   ·rw[hv];exact fun z=>nomatch z
  obtain⟨us',⟨a,p⟩,rfl⟩:∃us' x,us=us'++[x]:=⟨_,_,(Y3 hv).symm⟩
  have e:(!(us'++[(a,p)]).isEmpty)=true:=by cases us'<;>rfl
  rw[e]
  obtain⟨AV,yc⟩:=uz (a,p) (Ji _ (Jb.mpr rfl))
  have AV:=AV.same n8.same
  rw[Jg] at ul
  have ul:us'.length+1<=4000+16*rs.length:=ul
  refine eh ⟨fun σ' H'=>∃m',m'<(us'++[(a,p)]).length+20*(40000-rs.length)/\J m' σ' H',fun _ _ h=>h,?_⟩
  have rY:H8 wp=some (.lst (refs us'++[.ref a])):=by rw[wR];unfold refs;rw[Jh];rfl
  refine⟨_,rfl,.inl ⟨rfl,_,aB.of rY⟩,wp,_,.ref a,rfl,rfl,rY,?_,fun H9 c9=>gn ?_⟩
  ·rw[Jg,Ua (by show _<=_+1-1;omega)]
   show[V.ref a][(refs us').length+1-1-(refs us').length]? = _
   rw[show(refs us').length+1-1-(refs us').length=0 by omega];rfl
  have D1:H9 wp=some (.lst (refs us')):=by rw[c9.at];exact congrArg (fun l=>some (HO.lst l)) List.dropLast_concat
  have Ai:H9 d=some (.dT (rs.map jP)):=by rw[c9.ne dw];exact Hu
  have s9:aw H H9:=fun b o e=>by rw[c9.ne (ai e Aw)];exact s8 b o e
  have qi:bH H9 (a,p):=AV.chg c9 rY (fun _ z=>nomatch z)
  have G8:∀z∈us',bH H9 z/\(z.2=eP∨eR cs z.2/\Rc (cs.map sg) (gC z.2)):=fun z hz=>by
   obtain⟨h1,h2⟩:=uz z (Jx _ hz)
   exact⟨(h1.same n8.same).chg c9 rY (fun _ z=>nomatch z),h2⟩
  have Ig:∀r∈rs,r.2≠wp/\r.2≠d/\fA cs H9 r:=fun r hr=>by
   obtain⟨h1,h2,h3⟩:=rz r hr
   exact⟨h1,h2,(h3.same n8.same).chg c9 rY (fun _ z=>nomatch z) h1⟩
  dsimp only
  refine⟨_,rfl,_,rfl,d,_,rfl,cN.t (k:=pk p) Ai qi,_,rfl,?_⟩
  by_cases gU:p∈rs.map (·.1)
  ·rw[sY.mpr gU]
   refine cM ⟨us'.length+20*(40000-rs.length),by rw[Jg];show _<_+1+_;omega,_,us',rs,rfl,s9,D1,Ai,by omega,G8,Ig,nd,fn,ok,fun p' hp' =>?_,fun p' hp' q' hq' =>?_,rfl⟩
   ·rcases ini p' hp' with h|h
    ·rw[Jh] at h
     rcases Jj.mp h with h|h
     ·exact .inl h
     ·rw[Jb.mp h];exact .inr gU
    ·exact .inr h
   ·rcases cl p' hp' q' hq' with h|h
    ·rw[Jh] at h
     rcases Jj.mp h with h|h
     ·exact .inl h
     ·rw[Jb.mp h];exact .inr gU
    ·exact .inr h
  have eN:(aq (rs.map jP) (pk p)).isSome=false:=by
   cases hs:(aq (rs.map jP) (pk p)).isSome with
   | false=>rfl
   | true=>exact absurd (sY.mp hs) gU
  have G7:aq (rs.map jP) (pk p)=none:=by
   cases hs:aq (rs.map jP) (pk p) with
   | none=>rfl
   | some v=>rw[hs] at eN;cases eN
  rw[eN]
  have yc:eR cs p/\Rc (cs.map sg) (gC p):=yc.resolve_left fun z=>gU (by rw[show p=eP from z];exact fn)
  have l1:=yc.1.1.len g
  have l2:=yc.1.2.len g
  have vG:((rs++[(p,wp)]).map (·.1)).Nodup:=by
   rw[Jh]
   exact List.nodup_append.mpr ⟨nd,by simp,fun x hx y hy e=>gU (by have z:y=p:=Jb.mp hy;rw[<-z,<-e];exact hx)⟩
  have FP:∀x∈(rs++[(p,wp)]).map (·.1),x=eP∨(eR cs x/\Rc (cs.map sg) (gC x)):=fun x hx=>by
   rw[Jh] at hx
   rcases Jj.mp hx with h|h
   ·exact ok x h
   ·rw[Jb.mp h];exact .inr yc
  have Lq:rs.length+1<=40000:=by
   have:=Hr vG FP
   rwa[Jg] at this
  refine eh ⟨_,rfl,_,rfl,l,a,cs,p,rfl,s9 _ _ hl,qi,hle,l1.1,l1.2,l2.1,l2.2,fun zs r H10 s10 hrn hr10 ez hz =>?_⟩
  have qu:=s10 _ _ Ai
  have EY:=s10 _ _ D1
  have qp:r≠wp:=fun z=>by rw[z,D1] at hrn;cases hrn
  have rd:r≠d:=fun z=>by rw[z,Ai] at hrn;cases hrn
  refine⟨_,rfl,_,rfl,d,_,rfl,gj.t (k:=pk p) qu (s10 _ _ qi) (big (by rw[Ja];omega)),?_⟩
  rw[cz _ G7]
  obtain⟨oj,c11⟩:∃oj,iO H10 d (.dT ((rs++[(p,r)]).map jP)) oj:=⟨_,⟨rfl⟩⟩
  have ep:rs.map jP++[(pk p,V.ref r)]=(rs++[(p,r)]).map jP:=by rw[Jh];rfl
  rw[ep,<-c11.eq]
  have rK:oj wp=some (.lst (refs us')):=by rw[c11.ne (Ne.symm dw)];exact EY
  have Cr:oj r=some (.lst (refs zs)):=by rw[c11.ne rd];exact hr10
  have D6:bH oj (a,p):=(qi.same s10).chg c11 qu (fun _ z=>nomatch z)
  have val:aq ((rs++[(p,r)]).map jP) (pk p)=some (.ref r):=by rw[<-ep,<-cz (V.ref r) G7,eX,if_pos rfl]
  have zl:zs.length<=16:=by
   have:=congrArg Ue ez
   rw[Ja] at this
   rw[this];exact kW hle p
  refine⟨_,rfl,.inl ⟨rfl,_,aB.of rK⟩,?_⟩
  refine⟨_,rfl,_,rfl,d,.ref r,rfl,?_,?_⟩
  ·have:=cN.t (k:=pk p) c11.at D6
   rw[val] at this
   exact this
  refine⟨wp,r,_,_,rfl,rfl,rK,Cr,by rw[Ja,Ja];exact sizeOk (by omega),fun H12 c12=>⟨(us'++zs).length+20*(40000-(rs++[(p,r)]).length),?_,_,us'++zs,rs++[(p,r)],rfl,fun b o e =>?_,?_,?_,?_,fun z hz' =>?_,fun y hy =>?_,?_,?_,?_,fun p' hp' =>?_,fun p' hp' q' hq' =>?_,rfl⟩⟩
  ·rw[Jg,Jg,Jg];show _+_+20*(40000-(rs.length+1))<_+1+_;omega
  ·rw[c12.ne (ai e Aw),c11.ne (ai e u6)];exact s10 _ _ (s9 b o e)
  ·rw[c12.at];unfold refs;rw[Jh]
  ·rw[c12.ne dw];exact c11.at
  ·rw[Jg,Jg];show _+_<=4000+16*(rs.length+1);omega
  ·rcases Jj.mp hz' with hz'|hz'
   ·obtain⟨h1,h2⟩:=G8 z hz'
    exact⟨((h1.same s10).chg c11 qu (fun _ z=>nomatch z)).chg c12 rK (fun _ z=>nomatch z),h2⟩
   ·refine⟨((hz z hz').chg c11 qu (fun _ z=>nomatch z)).chg c12 rK (fun _ z=>nomatch z),?_⟩
    have hq:z.2∈gE cs p:=by rw[<-ez];exact Jz hz'
    refine(yc.1.next g hq).imp id fun h=>⟨h,.step _ _ yc.2 ?_⟩
    rw[<-pQ];exact Jz hq
  ·rcases Jj.mp hy with hy|hy
   ·obtain⟨h1,h2,h3⟩:=Ig y hy
    exact⟨h1,h2,((h3.same s10).chg c11 qu (fun _ z=>nomatch z) h2).chg c12 rK (fun _ z=>nomatch z) h1⟩
   ·rw[Jb.mp hy]
    exact⟨qp,rd,zs,by rw[c12.ne qp];exact Cr,ez,fun z hz'=>((hz z hz').chg c11 qu (fun _ z=>nomatch z)).chg c12 rK (fun _ z=>nomatch z)⟩
  ·rw[Jh] at vG ⊢;exact vG
  ·rw[Jh];exact Jx _ fn
  ·rw[Jh] at FP ⊢;exact FP
  ·rw[Jh,Jh]
   rcases ini p' hp' with h|h
   ·rw[Jh] at h
    rcases Jj.mp h with h|h
    ·exact .inl (Jx _ h)
    ·exact .inr (Ji _ h)
   ·exact .inr (Jx _ h)
  ·rw[Jh] at hp' ⊢
   rw[Jh]
   rcases Jj.mp hp' with hp'|hp'
   ·rcases cl p' hp' q' hq' with h|h
    ·rw[Jh] at h
     rcases Jj.mp h with h|h
     ·exact .inl (Jx _ h)
     ·exact .inr (Ji _ h)
    ·exact .inr (Jx _ h)
   ·rw[Jb.mp hp',<-ez] at hq'
    exact .inl (Ji _ hq')
 intro σ H7
 refine ae.go ?_
 rintro x5 us rs rfl s7 vw pr hn
 exact⟨_,rfl,q d rs H7 s7 u6 vw pr hn⟩
end
noncomputable def ov:Option Nat->V
 | none =>.non
 | some n =>.int (n:Nat)
noncomputable def DX (cs:List Str)(H:Hp)(v:V):Prop:=∃a,v = .ref a/\((DN H a 0/\∃p,Rc (cs.map sg) p/\∀o,¬Wv (cs.map sg) p o)∨∃kvs,H a=some (.dT kvs)/\kvs≠[]/\(∀p,Rc (cs.map sg) p->∃o,Wv (cs.map sg) p o) /\
 ∀d∈cs,∀k,1<=k->k<(sg d).length->∀p:Str×Str,sg p.1=(sg d).drop k->p.2∈cs->∃o,aq kvs (pk p)=some (ov o)/\Wv (cs.map sg) (gC p) o)
noncomputable def qh (K:Jd):Sp:=fun vs H Q _=>bV fun(l:Addr) (cs:List Str)=>vs=[.ref l]/\H l=some (.lst (cs.map V.str))/\jQ cs /\
 ∀(v:V) (H':Hp),aw H H'->DX cs H' v->Q v H'
theorem DL (x y:Str):PyData.eqv (.tuple [.str x,.str y]) (.tuple [.str (Str.ofString ""),.str (Str.ofString "")])=decide ((x,y)=eP):=by
 have e:((x,y)=eP)↔(x=Str.ofString "" /\ y=Str.ofString ""):=⟨fun h=>by injection h with h1 h2;exact⟨h1,h2⟩,fun⟨h1,h2⟩=>by rw[h1,h2]⟩
 have h:PyData.eqv (.tuple [.str x,.str y]) (.tuple [.str (Str.ofString ""),.str (Str.ofString "")])=(x==Str.ofString "" && y==Str.ofString ""):=by simp[PyData.eqv,PyData.eqvAll]
 rw[h,Bool.eq_iff_iff,Ye,decide_eq_true_iff,e]
 exact and_congr beq_iff_eq beq_iff_eq
theorem Cs {K:Jd}{H:Hp}{z:Addr×(Str×Str)}(h:bH H z):Den K H (.tuple [.str z.2.1,.str z.2.2]) (.ref z.1):=by
 have:=uM (K:=K) (ws:=[z]) (H:=H) fun y hy=>by rw[Jb.mp hy];exact h
 unfold refs at this
 rw[List.map_singleton,List.map_singleton] at this
 unfold aR at this
 refine ae.el (this) _ ?_
 rintro v r e h1 _
 cases e
 exact h1
theorem Hg {x y:Str}(h1:jL x)(h2:jL y):SeqAt.shaped (.tuple [.str x,.str y])=true:=(Sh.tuple (n:=0) fun e he=>by
 simp at he
 rcases he with rfl|rfl
 ·exact Sh.str (cC fun ch hc=>by rcases h1 ch hc with e|e<;>omega)
 ·exact Sh.str (cC fun ch hc=>by rcases h2 ch hc with e|e<;>omega)).shaped (by decide)
structure qk (cs:List Str)(rs:List ((Str×Str)×Addr))(kvs:List (List Key×V)):Prop where
 nd:(kvs.map (·.1)).Nodup
 so:∀k v,aq kvs k=some v->∃p o,k=pk p/\p∈rs.map (·.1)/\v=ov o/\Wv (cs.map sg) (gC p) o
theorem qk.le {cs:List Str}{rs:List ((Str×Str)×Addr)}{kvs:List (List Key×V)}(h:qk cs rs kvs)(pr:C5 cs rs):kvs.length<=40000:=by
 have:=bj (m:=(rs.map (·.1)).map pk) h.nd fun k hk=>by
  cases hv:aq kvs k with
  | none=>exact absurd hk (e7 hv)
  | some v=>
   obtain⟨p,o,rfl,hp,_⟩:=h.so k v hv
   exact Jz hp
 rw[Ja,Ja,Ja] at this
 exact Jq this pr.le
theorem qk.at {cs:List Str}{rs:List ((Str×Str)×Addr)}{kvs:List (List Key×V)}(h:qk cs rs kvs){p:Str×Str}(hp:(aq kvs (pk p)).isSome=true):∃o,aq kvs (pk p)=some (ov o)/\Wv (cs.map sg) (gC p) o:=by
 cases hv:aq kvs (pk p) with
 | none=>rw[hv] at hp;cases hp
 | some v=>
  refine ae.el (h.so _ _ hv) _ ?_
  rintro p' o e _ rfl hw
  rw[<-i0 e] at hw
  exact⟨o,rfl,hw⟩
theorem tW {cs:List Str}{rs:List ((Str×Str)×Addr)}(pr:C5 cs rs){H:Hp}{d:Addr}{ob:Obj}(hd:H d=some (.frz ob (.dT (rs.map jP))))(hn:∀r∈rs,fA cs H r){b:Addr}{p:Str×Str}(hb:bH H (b,p))(hp:p∈rs.map (·.1)):
  ∃r zs,cN H d (.ref b) (some (.ref r))/\H r=some (.lst (refs zs))/\zs.map (·.2)=gE cs p/\∀z∈zs,bH H z:=by
 refine ae.el (Jv.mp hp) _ ?_
 rintro r hr rfl
 obtain⟨zs,h1,h2,h3⟩:=hn r hr
 refine⟨r.2,zs,?_,h1,h2,h3⟩
 refine .inr ⟨_,pk r.1,b,.inr ⟨ob,hd⟩,rfl,hb,?_⟩
 have key:∀{rs:List ((Str×Str)×Addr)},(rs.map (·.1)).Nodup->r∈rs->aq (rs.map jP) (pk r.1)=some (.ref r.2):=fun{rs} nd hm=>by
  induction rs with
  | nil=>cases hm
  | cons x rs ih=>
   rw[Ui,U4] at nd
   rcases Ug.mp hm with e|hm
   ·subst e
    unfold aq;simp[jP]
   ·have:x.1≠r.1:=fun e=>nd.1 (by rw[e];exact Jz hm)
    rw[Ui,<-ih nd.2 hm]
    unfold aq
    rw[List.find?_cons_of_neg (by rw[decide_eq_true_iff];exact fun e=>this (i0 e))]
 exact(key pr.nd hr).symm
noncomputable def tf (kvs:List (List Key×V))(q:Str×Str):Option Int:=match aq kvs (pk q) with
 | some (.int n)=>some (n+1)
 | _=>none
theorem iV {kvs:List (List Key×V)}{q:Str×Str}(h:aq kvs (pk q)=some (ov none)):tf kvs q=none:=by unfold tf;rw[h];rfl
theorem gR {kvs:List (List Key×V)}{q:Str×Str}{n:Nat}(h:aq kvs (pk q)=some (ov (some n))):tf kvs q=some ((n:Int)+1):=by unfold tf;rw[h];rfl
noncomputable def HY (s:Sg×Sg):Str×Str:=(⟨s.1.toArray⟩,⟨s.2.toArray⟩)
theorem zw (q:Str×Str):HY (gC q)=q:=by
 refine wy ?_
 show((sg q.1).toArray.toList,(sg q.2).toArray.toList)=_
 rw[Yh,Yh]
noncomputable def wf (kvs:List (List Key×V))(s:Sg×Sg):Option Nat:=(tf kvs (HY s)).map fun i=>(i-1).toNat
theorem rZ {kvs:List (List Key×V)}{q:Str×Str}{o:Option Nat}(h:aq kvs (pk q)=some (ov o)):wf kvs (gC q)=o:=by
 unfold wf;rw[zw]
 cases o with
 | none=>rw[iV h];rfl
 | some n=>
  rw[gR h]
  show some (((n:Int)+1-1).toNat)=some n
  congr 1;omega
theorem qk.put {cs:List Str}{rs:List ((Str×Str)×Addr)}{kvs:List (List Key×V)}(h:qk cs rs kvs){p:Str×Str}(hp:p∈rs.map (·.1))(n1:sg p.1≠[])(n2:sg p.2≠[])(all:∀q∈gE cs p,(aq kvs (pk q)).isSome=true){o:Option Nat}
  (t:(o=none/\(gE cs p).filterMap (tf kvs)=[])∨∃m:Nat,o=some m/\(m:Int)∈(gE cs p).filterMap (tf kvs)/\∀a∈(gE cs p).filterMap (tf kvs),a<=(m:Int)):Wv (cs.map sg) (gC p) o:=by
 have mem:∀a:Nat,(∃q∈nx (cs.map sg) (gC p),∃d,wf kvs q=some d/\a=d+1)↔(a:Int)∈(gE cs p).filterMap (tf kvs):=fun a=>by
  rw[<-pQ,List.mem_filterMap]
  refine⟨fun⟨q,hq,d,e,ea⟩=>?_,fun⟨q,hq,e⟩=>?_⟩
  ·refine ae.el (Jv.mp hq) _ ?_
   rintro q yU rfl
   refine ae.el (h.at (all q yU)) _ ?_
   rintro o ho _
   rw[rZ ho] at e
   subst e
   exact⟨q,yU,by rw[gR ho,ea];rfl⟩
  ·refine ae.el (h.at (all q hq)) _ ?_
   rintro o ho _
   cases o with
   | none=>rw[iV ho] at e;cases e
   | some n=>
    rw[gR ho] at e
    have e:=Option.some.inj e
    exact⟨gC q,Jz hq,n,rZ ho,by omega⟩
 refine .step _ (wf kvs) o n1 n2 (fun q hq =>?_) ?_
 ·rw[<-pQ] at hq
  refine ae.el (Jv.mp hq) _ ?_
  rintro q yU rfl
  refine ae.el (h.at (all q yU)) _ ?_
  rintro o ho hw
  rw[rZ ho];exact hw
 ·rcases t with ⟨rfl,e⟩|⟨m,rfl,h1,h2⟩
  ·refine .inl ⟨rfl,fun a ha =>?_⟩
   have:=(mem a).mp ha
   rw[e] at this;cases this
  ·exact .inr ⟨m,rfl,(mem m).mpr h1,fun a ha=>by have:=h2 _ ((mem a).mp ha);omega⟩
theorem qk.more {cs:List Str}{rs:List ((Str×Str)×Addr)}{kvs:List (List Key×V)}(h:qk cs rs kvs){p:Str×Str}(hp:p∈rs.map (·.1))(hn:aq kvs (pk p)=none){o:Option Nat}(hw:Wv (cs.map sg) (gC p) o):qk cs rs (kvs++[(pk p,ov o)]):=by
 refine⟨?_,fun k v e =>?_⟩
 ·rw[Jh]
  exact List.nodup_append.mpr ⟨h.nd,by simp,fun x hx y hy e=>e7 hn (by have z:y=pk p:=Jb.mp hy;rw[<-z,<-e];exact hx)⟩
 ·rw[<-cz (ov o) hn,eX] at e
  by_cases hk:k=pk p
  ·rw[if_pos hk] at e
   exact⟨p,o,hk,hp,(Option.some.inj e).symm,hw⟩
  ·rw[if_neg hk] at e;exact h.so k v e
section
variable {P:Program}{w:World}{K:Jd}{mg:Str->Option Value}{base:Heap}{f:Addr}{fd:FuncData}
theorem aV:bb ["_law_codes", "_law_pairs_here", "_law_worths_here", "_law_left", "_law_more", "_law_some", "_law_pair", "_law_told"] ["_law_codes"] (aF (top eC)):=⟨rfl,rfl,rfl,by decide +kernel,rfl,by decide +kernel,by decide +kernel⟩
theorem zg (F:d5 K "_law_worths" "_law_worths" (top eC) f fd)(T:Nm mg)(mj:Fn P w K mg base 2 "_law_pairs" ["_law_codes"] (qg K)):cf P w K mg base ir 3 f fd ["_law_codes"] (qh K):=by
 refine F.ok aV (fun vs H Q E h =>?_) (fun dS A outer s H vs Q E hr h =>?_)
 ·obtain⟨l,cs,rfl,_⟩:=h
  rfl
 unfold qh at h
 refine ae.el h _ ?_
 clear h
 rintro l cs rfl hl g q
 have hu:=jE hr
 have hW:=hr.units
 have hle:=g.le
 have small:∀{n:Nat},n<=1000->n<sizeLine:=fun h=>Uc h (by decide)
 have big:∀{n:Nat},n<=5000000->n<sizeLine:=fun h=>Uc h (by decide)
 have bE:jL (Str.ofString ""):=fun ch hc=>nomatch hc
 refine⟨_,(ah (aG (i:=1) aV.nd rfl (Or.inr rfl) (bp (mj.mono (by decide)) hr rfl (aa (pv 0) ag)))
  (ah (aG (i:=2) aV.nd rfl (Or.inr rfl) (mh hu (gK (aa aZ (aa aZ ag))) ar))
  (ah (bL (i:=3) aV.nd rfl (Or.inl rfl) rfl (aO (Nc:=["_law_pair"]) (Fc:=[]) (js:=[])) (sQ (pv 1)) (aD (i:=0) (n:=1) (by decide)) (fun _ _ _ _ _=>(ak (i:=0) (fJ ["_law_pair"]) rfl (Or.inl rfl))) (fun _ _ _ _ _=>(df (aI (rS K hW) (pv 0) (gK (aa aZ (aa aZ ag))) (aQ _)))) (fun _ _ _ _ _=>(pv 0)))
  (ah (aG (i:=4) aV.nd rfl (Or.inl rfl) kb)
  (ah (gF PassesOwn.never (hZ (pv 4)) (ah (bL (i:=5) aV.nd rfl (Or.inl rfl) rfl (aO (Nc:=["_law_pair"]) (Fc:=["_law_worths_here", "_law_pairs_here"]) (js:=[2,1])) (iz K (pv 3)) (aD (i:=0) (n:=1) (by decide)) (fun _ _ _ _ _=>(ak (i:=0) (fJ ["_law_pair", "_law_worths_here", "_law_pairs_here"]) rfl (Or.inl rfl))) (fun _ _ _ _ _=>(df (hZ (az (AK K rfl) rfl T.n_all (by rfl) (aa (bR rfl (aO (Nc:=["_law_one"]) (Fc:=["_law_worths_here"]) (js:=[1])) (iz K (cc hu (pv 2) (pv 0) (fun _ _=>rfl))) (aD (i:=0) (n:=1) (by decide)) (fun _ _ _ _ _=>(ak (i:=0) (fJ ["_law_one", "_law_worths_here"]) rfl (Or.inl rfl))) (fun _ _ _ _ _=>bJ) (fun _ _ _ _ _=>(tH (lV hu (pv 0) (pv 1))))) ag))))) (fun _ _ _ _ _=>(pv 0)))
  (ah (cT PassesOwn.never rfl (iz K (pv 5)) (ak (i:=6) aV.nd rfl (Or.inl rfl)) (ah (bL (i:=7) aV.nd rfl (Or.inl rfl) rfl (aO (Nc:=["_law_one"]) (Fc:=["_law_worths_here"]) (js:=[2])) (iz K (cc hu (pv 1) (pv 6) (fun _ _=>rfl))) (aD (i:=0) (n:=1) (by decide)) (fun _ _ _ _ _=>(ak (i:=0) (fJ ["_law_one", "_law_worths_here"]) rfl (Or.inl rfl))) (fun _ _ _ _ _=>(df (aI lR (cc hu (pv 1) (pv 0) (fun _ _=>rfl)) d9 (aQ _)))) (fun _ _ _ _ _=>(aW eJ (cc hu (pv 1) (pv 0) (fun _ _=>rfl)) ar)))
  (ao (gI hu (pv 2) (pv 6) (fu (aI (rS K hW) (pv 7) (dm ag) (aQ _)) (az (xZ K rfl) rfl T.n_max (by rfl) (aa (pv 7) ag)) d9) rfl))))
  (ah (bL (i:=3) aV.nd rfl (Or.inl rfl) rfl (aO (Nc:=["_law_pair"]) (Fc:=["_law_worths_here"]) (js:=[2])) (iz K (pv 3)) (aD (i:=0) (n:=1) (by decide)) (fun _ _ _ _ _=>(ak (i:=0) (fJ ["_law_pair", "_law_worths_here"]) rfl (Or.inl rfl))) (fun _ _ _ _ _=>(df (ic (fE hu (pv 0) (pv 1))))) (fun _ _ _ _ _=>(pv 0)))
  (ao (aG (i:=4) aV.nd rfl (Or.inl rfl) (iZ (rS K hW) (pv 5) (dm ag) (aQ _))))))))
  (ao (aX (fu (aI (rS K hW) (pv 3) (dm ag) (aQ _)) qr (pv 2))))))))),?_⟩
 refine⟨_,rfl,l,cs,rfl,hl,g,fun d rs H1 s1 u6 hd1 pr hn1=>gn ?_⟩
 refine fun wd H2 n2=>⟨by show 2<=sizeLine;decide,fun t H3 n3=>⟨n3.same _ _ n2.at,pk eP,t,rfl,n3.at,fun H4 c4=>gn ?_⟩⟩
 have Ep:=n2.same.trans n3.same
 have Bd:=n3.same _ _ n2.at
 have Dq:H1 wd=none:=n2.nn
 have Aw:H wd=none:=by
  cases e:H wd with
  | none=>rfl
  | some o=>rw[s1 _ _ e] at Dq;cases Dq
 have s4:aw H1 H4:=fun b o e=>by rw[c4.ne (ai e Dq)];exact Ep b o e
 have An:=s4 _ _ hd1
 have G4:=c4.at
 have HM:∀r∈rs,fA cs H4 r:=fun r hr=>(hn1 r hr).same s4
 have dw:d≠wd:=ai hd1 Dq
 dsimp only
 refine dk (te:=fB _ _ _ _ _ _) (fun v H'=>dR fun(p:Addr) (ob:Obj) (zs:List (Addr×(Str×Str)))=>v = .ref p/\(∀b o,b≠d->H4 b=some o->H' b=some o)/\H' d=some (.frz ob (.dT (rs.map jP)))/\H4 p=none/\H' p=some (.lst (refs zs))/\zs.map (·.2)=(rs.map (·.1)).filter (fun x => !decide (x=eP))/\∀z∈zs,bH H' z) (fun Qn qn =>?_) ?_
 ·refine⟨_,rfl,d,_,rfl,An,fun ob =>?_⟩
  obtain⟨H5,c5⟩:∃H5,iO H4 d (.frz ob (.dT (rs.map jP))) H5:=⟨_,⟨rfl⟩⟩
  rw[<-c5.eq]
  refine bA (N:=rs.length) (fun i ys H'=>∃zs:List (Addr×(Str×Str)),ys=refs zs/\aw H5 H'/\zs.map (·.2)=((rs.take i).map (·.1)).filter (fun x => !decide (x=eP))/\∀z∈zs,bH H' z) ⟨[],rfl,aw.refl _,rfl,fun z h=>nomatch h⟩ ?_ ?_
  ·intro i ys H6 Ny hi hz_ ny
   refine ae.el hz_ _ ?_
   clear hz_
   rintro zs rfl s6 ez hz
   have zl:zs.length<=i:=by
    have:=congrArg Ue ez
    rw[Ja] at this
    rw[this]
    refine Jq (Yk _ _) ?_
    rw[Ja,J3];omega
   have rl:=pr.le
   refine⟨⟨s6 _ _ c5.at,by rw[Ja];exact hi⟩,big (by rw[Ja];omega),?_⟩
   rintro v H7 ⟨rfl,kv,b,hkv,rfl,hb⟩
   rw[Jn,Jf hi] at hkv
   cases hkv
   have aN:=pr.ok _ (Jz (Jw hi))
   have ck:=aA hi
   generalize rs[i]=r at hb aN ck
   obtain⟨⟨x,y⟩,ra⟩:=r
   have hb:bH H7 (b,(x,y)):=hb
   have bn:jL x/\jL y:=by
    rcases aN with e|⟨⟨h1,h2⟩,_⟩
    ·injection e with e1 e2
     exact⟨by rw[e1];exact bE,by rw[e2];exact bE⟩
    ·exact⟨h1.bin g,h2.bin g⟩
   refine gn ?_
   refine⟨_,rfl,by show 2<=sizeLine;decide,fun t8 H8 n8 =>.inr ⟨_,_,Cs (hb.same n8.same),Cs (z:=(t8,eP)) n8.at,Hg bn.1 bn.2,Hg bE bE,_,rfl,?_⟩⟩
   rw[DL]
   have Dp:((rs.take (i+1)).map (·.1)).filter (fun x => !decide (x=eP))=((rs.take i).map (·.1)).filter (fun x => !decide (x=eP))++(if (x,y)=eP then [] else [(x,y)]):=by
    rw[ck,Jh,List.filter_append]
    congr 1
    show List.filter _ [(x,y)]=_
    by_cases h:(x,y)=eP
    ·rw[if_pos h,h];rfl
    ·rw[if_neg h,Y6,if_pos (by rw[decide_eq_false h];rfl),List.filter_nil]
   by_cases h:(x,y)=eP
   ·rw[decide_eq_true h]
    rw[if_pos h,Ut] at Dp
    exact cM (ny _ _ ⟨zs,rfl,s6.trans n8.same,by rw[Dp];exact ez,fun z hz'=>(hz z hz').same n8.same⟩)
   ·rw[decide_eq_false h]
    rw[if_neg h] at Dp
    refine eh ⟨_,rfl,ny _ _ ⟨zs++[(b,(x,y))],by unfold refs;rw[Jh];rfl,s6.trans n8.same,by rw[Dp,Jh,ez];rfl,fun z hz' =>?_⟩⟩
    rcases Jj.mp hz' with hz'|hz'
    ·exact(hz z hz').same n8.same
    ·rw[Jb.mp hz'];exact hb.same n8.same
  ·intro ys H6
   refine ae.go ?_
   rintro zs rfl s6 ez hz
   rw[J0] at ez
   refine⟨⟨s6 _ _ c5.at,by rw[Ja];exact Je _⟩,fun p hp=>qn _ _ ⟨p,ob,zs,rfl,fun b o hb e =>?_,?_,?_,aE,ez,fun z hz'=>(hz z hz').same (cA hp _)⟩⟩
   ·exact cA hp _ _ _ (s6 _ _ (by rw[c5.ne hb];exact e))
   ·exact cA hp _ _ _ (s6 _ _ c5.at)
   ·cases e:H4 p with
    | none=>rfl
    | some o=>
     by_cases hb:p=d
     ·rw[hb,s6 _ _ c5.at] at hp;cases hp
     ·rw[s6 _ _ (by rw[c5.ne hb];exact e)] at hp;cases hp
 intro v H5
 refine ae.go ?_
 rintro lp0 ob zs0 rfl k5 vb hl0 hlp5 ez0 hz0
 refine gn (gn ?_)
 have II:H5 wd=some (.dT [(pk eP,.int 0)]):=k5 _ _ (Ne.symm dw) G4
 have s5:∀b o,b≠d->H b=some o->H5 b=some o:=fun b o hb e=>k5 b o hb (s4 b o (s1 b o e))
 have IH:aw H H5:=fun b o e=>s5 b o (ai e u6) e
 have IU:∀r∈rs,fA cs H5 r:=fun r hr=>by
  obtain⟨zs,h1,h2,h3⟩:=HM r hr
  exact⟨zs,k5 _ _ (fun z=>by rw[z,An] at h1;cases h1) h1,h2,fun z hz=>k5 _ _ (fun e=>by have:=h3 z hz;unfold bH at this;rw[e,An] at this;cases this) (h3 z hz)⟩
 clear k5 hl0 HM An G4 s4 hn1 hd1
 refine gn ?_
 rw[show(List.set _ _ _:L2.St)=[some (.ref l),some (.ref d),some (.ref wd),some (.ref lp0),some (.bl true),none,none,none] from rfl]
 have BK:∀{p:Str×Str},p∈rs.map (·.1)->p≠eP->eR cs p/\Rc (cs.map sg) (gC p)/\sg p.1≠[]/\sg p.2≠[]:=fun{p} hp ne=>by
  obtain⟨h1,h2⟩:=(pr.ok p hp).resolve_left ne
  have l1:=(h1.1.len g).1
  have l2:=(h1.2.len g).1
  have e1:p.1.length=(sg p.1).length:=str_len _
  have e2:p.2.length=(sg p.2).length:=str_len _
  exact⟨h1,h2,fun z=>by rw[z] at e1;simp at e1;omega,fun z=>by rw[z] at e2;simp at e2;omega⟩
 dsimp only
 let J:Nat->L2.St->Hp->Prop:=fun m σ H'=>pO fun(lp:Addr) (zs:List (Addr×(Str×Str))) (kvs:List (List Key×V)) (more:Bool)=>dR fun(x5 x6 x7:Option V) =>σ=[some (.ref l),some (.ref d),some (.ref wd),some (.ref lp),some (.bl more),x5,x6,x7]/\m=2*zs.length+(if more=true then 1 else 0)/\aw H H'/\H' d=some (.frz ob (.dT (rs.map jP)))/\(∀r∈rs,fA cs H' r)/\H' lp=some (.lst (refs zs))/\(∀z∈zs,bH H' z)/\(zs.map (·.2)).Nodup/\(∀z∈zs,z.2∈rs.map (·.1)/\z.2≠eP/\aq kvs (pk z.2)=none)/\H' wd=some (.dT kvs)/\qk cs rs kvs/\(∀p∈rs.map (·.1),p∈zs.map (·.2)∨(aq kvs (pk p)).isSome=true)/\(more=false->∀z∈zs,∃q∈gE cs z.2,aq kvs (pk q)=none)
 refine bW (t:=ig _ _) (fun σ H'=>dR fun(lp:Addr) (zs:List (Addr×(Str×Str))) (kvs:List (List Key×V))=>dR fun(x5 x6 x7:Option V) =>σ=[some (.ref l),some (.ref d),some (.ref wd),some (.ref lp),some (.bl false),x5,x6,x7]/\aw H H'/\H' lp=some (.lst (refs zs))/\(∀z∈zs,bH H' z)/\(∀z∈zs,z.2∈rs.map (·.1)/\z.2≠eP)/\H' wd=some (.dT kvs)/\qk cs rs kvs/\(∀p∈rs.map (·.1),p∈zs.map (·.2)∨(aq kvs (pk p)).isSome=true)/\∀z∈zs,∃q∈gE cs z.2,aq kvs (pk q)=none) (fun Nx nx =>?_) ?_
 ·have v0:∀k v,aq [(pk eP,V.int 0)] k=some v->k=pk eP/\v = .int 0:=fun k v e=>by
   by_cases h:k=pk eP
   ·subst h
    exact⟨rfl,by unfold aq at e;simpa using e.symm⟩
   ·unfold aq at e
    rw[List.find?_cons_of_neg (by rw[decide_eq_true_iff];exact fun z=>h z.symm)] at e
    cases e
  have BI:∀p,p∈zs0.map (·.2)↔p∈rs.map (·.1)/\p≠eP:=fun p=>by
   rw[ez0,Y9]
   refine and_congr Iff.rfl ⟨fun h z =>?_,fun h =>?_⟩
   ·rw[decide_eq_true z] at h;cases h
   ·rw[decide_eq_false h];rfl
  refine iM J ⟨_,lp0,zs0,[(pk eP,.int 0)],true,none,none,none,rfl,rfl,IH,vb,IU,hlp5,hz0,by rw[ez0];exact List.Nodup.sublist List.filter_sublist pr.nd,fun z hz =>?_,II,⟨by simp,fun k v e =>?_⟩,fun p hp =>?_,(fun h=>nomatch h)⟩ ?_
  ·obtain⟨h1,h2⟩:=(BI _).mp (Jz hz)
   refine⟨h1,h2,?_⟩
   cases hv:aq [(pk eP,V.int 0)] (pk z.2) with
   | none=>rfl
   | some v=>exact absurd (i0 (v0 _ _ hv).1) h2
  ·obtain⟨rfl,rfl⟩:=v0 k v e
   exact⟨eP,some 0,rfl,pr.fin,rfl,.fin⟩
  ·by_cases h:p=eP
   ·rw[h];exact .inr (by unfold aq;simp)
   ·exact .inl ((BI p).mpr ⟨hp,h⟩)
  intro m σ H6
  refine ae.go ?_
  rintro lp zs kvs more x5 x6 x7 rfl rfl s6 xu hn6 hlp6 hz6 znd zk oo wo cov fixp
  have zl:zs.length<=40000:=by
   have:=bj (m:=rs.map (·.1)) znd fun p hp=>by
    refine ae.el (Jv.mp hp) _ ?_
    rintro z hz rfl
    exact(zk z hz).1
   rw[Ja,Ja] at this
   exact Jq this pr.le
  cases more with
  | false=>exact⟨_,rfl,_,rfl,cM (nx _ _ ⟨lp,zs,kvs,x5,x6,x7,rfl,s6,hlp6,hz6,fun z hz=>⟨(zk z hz).1,(zk z hz).2.1⟩,oo,wo,cov,fixp rfl⟩)⟩
  | true=>
   refine⟨_,rfl,_,rfl,eh ⟨fun σ' H'=>∃m',m'<2*zs.length+1/\J m' σ' H',fun _ _ h=>h,?_⟩⟩
   have eO:∀{ws:List (Addr×(Str×Str))} {i:Nat} (hi:i<ws.length),(refs ws)[i]? = some (.ref ws[i].1):=fun hi=>by unfold refs;rw[Jn,Jf hi];rfl
   obtain⟨Fz,hFz⟩:∃Fz:Addr×(Str×Str)->Bool,Fz=fun z=>(gE cs z.2).all fun q=>(aq kvs (pk q)).isSome:=⟨_,rfl⟩
   refine dk (te:=fB _ _ _ _ _ _) (fun v H'=>∃sp,v = .ref sp/\aw H6 H'/\H6 sp=none/\H' sp=some (.lst (refs (zs.filter Fz)))) (fun Qn qn =>?_) ?_
   ·refine⟨_,rfl,lp,rfl,⟨_,aB.of hlp6⟩,?_⟩
    refine bA (N:=zs.length) (fun i ys H'=>ys=refs ((zs.take i).filter Fz)/\aw H6 H') ⟨rfl,aw.refl _⟩ ?_ ?_
    ·rintro i ys H7 Ny hi ⟨rfl,s7⟩ ny
     refine⟨⟨_,_,aB.of (s7 _ _ hlp6),eO hi⟩,big ?_,?_⟩
     ·unfold refs
      rw[Ja]
      have h1:=Yk Fz (zs.take i)
      rw[J3] at h1
      omega
     rintro y H8 ⟨rfl,hy⟩
     have e:=hy _ (aB.of (s7 _ _ hlp6))
     rw[eO hi] at e;cases e
     have Bk:=(hz6 _ (Jw hi)).same s7
     have GY:=(zk _ (Jw hi)).1
     have ck:=aA hi
     generalize zs[i]=z at Bk GY ck
     refine ae.el (tW pr (s7 _ _ xu) (fun r hr=>(hn6 r hr).same s7) (b:=z.1) (p:=z.2) Bk GY) _ ?_
     rintro r ns hg iI en oy
     have nl:ns.length<=16:=by
      have:=congrArg Ue en
      rw[Ja] at this
      rw[this];exact kW hle _
     refine gn ⟨_,rfl,_,rfl,d,.ref r,rfl,hg,r,rfl,⟨_,aB.of iI⟩,?_⟩
     refine bA (N:=ns.length) (fun j ys H'=>H'=H8/\ys=((ns.take j).map fun q=>(aq kvs (pk q.2)).isSome).map V.bl) ⟨rfl,rfl⟩ ?_ ?_
     ·rintro j ys H9 Nz hj ⟨rfl,rfl⟩ nz
      refine⟨⟨_,_,aB.of iI,eO hj⟩,small (by rw[Ja,Ja,J3];omega),?_⟩
      rintro y H10 ⟨rfl,hy⟩
      have e:=hy _ (aB.of iI)
      rw[eO hj] at e;cases e
      refine gn ⟨_,rfl,_,rfl,wd,_,rfl,cN.t (k:=pk ns[j].2) (s7 _ _ oo) (oy _ (Jw hj)),nz _ _ ⟨rfl,?_⟩⟩
      rw[aA hj,Jh,Jh];rfl
     ·rintro ys H9 ⟨rfl,rfl⟩
      refine⟨⟨_,aB.of iI,by rw[Ja];exact Je _⟩,fun p9 qi =>?_⟩
      rw[J0]
      obtain⟨H10,n10⟩:∃H10,dz H9 p9 (.lst ((ns.map fun q=>(aq kvs (pk q.2)).isSome).map V.bl)) H10:=⟨_,qi,rfl⟩
      rw[<-n10.eq]
      refine⟨p9,_,rfl,aB.of n10.at,_,rfl,?_⟩
      have eF:(ns.map fun q=>(aq kvs (pk q.2)).isSome).all id=Fz z:=by
       rw[hFz]
       show _=(gE cs z.2).all _
       rw[<-en,List.all_map,List.all_map];rfl
      rw[eF]
      have ef:(zs.take (i+1)).filter Fz=(zs.take i).filter Fz++(if Fz z=true then [z] else []):=by
       rw[ck,List.filter_append]
       congr 1
       by_cases h:Fz z=true
       ·rw[if_pos h,Y6,if_pos h,List.filter_nil]
       ·rw[if_neg h,Y6,if_neg h,List.filter_nil]
      refine eK (fun c=>⟨_,rfl,ny _ _ ⟨?_,s7.trans n10.same⟩⟩) (fun c=>ny _ _ ⟨?_,s7.trans n10.same⟩)
      ·rw[ef,if_pos c];unfold refs;rw[Jh];rfl
      ·rw[ef,if_neg c,Ut]
    ·rintro ys H7 ⟨rfl,s7⟩
     rw[J0]
     refine⟨⟨_,aB.of (s7 _ _ hlp6),by unfold refs;rw[Ja];exact Je _⟩,fun p hp=>qn _ _ ⟨p,rfl,s7.trans (cA hp _),?_,aE⟩⟩
     cases e:H6 p with
     | none=>rfl
     | some o=>rw[s7 _ _ e] at hp;cases hp
   intro v H7
   refine ae.go ?_
   rintro sp rfl s67 hsp0 hsp7
   refine gn ?_
   obtain⟨ms,hms⟩:∃ms,ms=zs.filter Fz:=⟨_,rfl⟩
   rw[<-hms] at hsp7
   have wJ:∀z∈ms,z∈zs/\Fz z=true:=fun z hz=>by rw[hms] at hz;exact Y9.mp hz
   have ml:ms.length<=zs.length:=by rw[hms];exact Yk _ _
   have JZ:(ms.map (·.2)).Nodup:=by rw[hms];exact List.Nodup.sublist (List.Sublist.map _ List.filter_sublist) znd
   have s7:=s6.trans s67
   have vw:=s67 _ _ xu
   have xT:=s67 _ _ oo
   have GN:∀r∈rs,fA cs H7 r:=fun r hr=>(hn6 r hr).same s67
   have GI:∀z∈zs,bH H7 z:=fun z hz=>(hz6 z hz).same s67
   have D0:=s67 _ _ hlp6
   dsimp only
   refine bW (t:=lA _ _ _) (fun σ H'=>dR fun(x6 x7:Option V) (bD:List (List Key×V)) =>σ=[some (.ref l),some (.ref d),some (.ref wd),some (.ref lp),some (.bl true),some (.ref sp),x6,x7]/\(∀b o,b≠wd->H7 b=some o->H' b=some o)/\H' wd=some (.dT bD)/\qk cs rs bD/\(∀p,(aq kvs (pk p)).isSome=true->(aq bD (pk p)).isSome=true)/\(∀z∈ms,(aq bD (pk z.2)).isSome=true)/\∀p,(aq bD (pk p)).isSome=true->(aq kvs (pk p)).isSome=true∨p∈ms.map (·.2)) (fun Nx2 nx2 =>?_) ?_
   ·refine⟨_,rfl,sp,rfl,⟨_,aB.of hsp7⟩,?_⟩
    refine dJ (N:=ms.length) (fun i σ H'=>dR fun(x6 x7:Option V) (bD:List (List Key×V)) =>σ=[some (.ref l),some (.ref d),some (.ref wd),some (.ref lp),some (.bl true),some (.ref sp),x6,x7]/\(∀b o,b≠wd->H7 b=some o->H' b=some o)/\H' wd=some (.dT bD)/\qk cs rs bD/\(∀p,(aq kvs (pk p)).isSome=true->(aq bD (pk p)).isSome=true)/\(∀z∈ms.take i,(aq bD (pk z.2)).isSome=true)/\∀p,(aq bD (pk p)).isSome=true->(aq kvs (pk p)).isSome=true∨p∈(ms.take i).map (·.2)) ⟨_,_,kvs,rfl,(fun b o _ e=>e),xT,wo,(fun p h=>h),(fun z h=>nomatch h),fun p h =>.inl h⟩ ?_ ?_
    ·intro i σ H8 hi
     refine ae.go ?_
     rintro x6 x7 bD rfl k8 wR wo8 m8 d8 b8
     have BQ:sp≠wd:=fun z=>by rw[z,oo] at hsp0;cases hsp0
     have BP:=k8 _ _ BQ hsp7
     refine⟨⟨_,_,aB.of BP,eO hi⟩,?_⟩
     rintro v H9 ⟨rfl,hv⟩
     have e:=hv _ (aB.of BP)
     rw[eO hi] at e;cases e
     refine gn ?_
     have pK:∀{y:Addr×(Str×Str)},bH H7 y->bH H9 y:=fun{y} h=>k8 _ _ (fun e=>by have h:=h;unfold bH at h;rw[e,xT] at h;cases h) h
     have IG:∀r∈rs,fA cs H9 r:=fun r hr=>by
      obtain⟨ys,h1,h2,h3⟩:=GN r hr
      exact⟨ys,k8 _ _ (fun e=>by rw[e,xT] at h1;cases h1) h1,h2,fun y hy=>pK (h3 y hy)⟩
     have Ai:=k8 _ _ dw vw
     obtain⟨xF,hF⟩:=wJ _ (Jw hi)
     have ck:=aA hi
     have oH:ms[i].2∉(ms.take i).map (·.2):=fun h=>by
      refine ae.el (Jv.mp h) _ ?_
      rintro y hy e
      refine ae.el (Yc.mp hy) _ ?_
      rintro j hj e'
      rw[J3] at hj
      rw[List.getElem_take] at e'
      have h1:=Y8.mp JZ
      exact Yg.mp h1 j i (by rw[Ja];omega) (by rw[Ja];omega) (by omega) (by rw[List.getElem_map,List.getElem_map,e'];exact e)
     generalize ms[i]=z at xF hF ck oH
     refine ae.el (zk z xF) _ ?_
     rintro zk1 zk2 zk3
     have HQ:=pK (GI z xF)
     refine ae.el (tW pr Ai IG (b:=z.1) (p:=z.2) HQ zk1) _ ?_
     rintro r ns hg iI en oy
     have nl:ns.length<=16:=by
      have:=congrArg Ue en
      rw[Ja] at this
      rw[this];exact kW hle _
     have cU:∀q∈gE cs z.2,(aq bD (pk q)).isSome=true:=fun q hq=>by
      rw[hFz] at hF
      exact m8 q (List.all_eq_true.mp hF q hq)
     have FD:aq bD (pk z.2)=none:=by
      cases hv:aq bD (pk z.2) with
      | none=>rfl
      | some v=>
       rcases b8 z.2 (by rw[hv];rfl) with h|h
       ·rw[zk3] at h;cases h
       ·exact absurd h oH
     obtain⟨L,hL⟩:∃L,L=(gE cs z.2).filterMap (tf bD):=⟨_,rfl⟩
     have Ll:L.length<=16:=by rw[hL];exact Jq (List.length_filterMap_le _ _) (kW hle _)
     have Ln:∀a∈L,∃n:Nat,a=((n+1:Nat):Int):=fun a ha=>by
      rw[hL] at ha
      refine ae.el (List.mem_filterMap.mp ha) _ ?_
      rintro q hq e
      refine ae.el (wo8.at (cU q hq)) _ ?_
      rintro o ho _
      cases o with
      | none=>rw[iV ho] at e;cases e
      | some n=>rw[gR ho] at e;exact⟨n,by have:=Option.some.inj e;omega⟩
     dsimp only
     refine dk (te:=fB _ _ _ _ _ _) (fun v H'=>∃tp,v = .ref tp/\dz H9 tp (.lst (L.map V.int)) H') (fun Qn qn =>?_) ?_
     ·refine⟨_,rfl,_,rfl,d,.ref r,rfl,hg,r,rfl,⟨_,aB.of iI⟩,?_⟩
      refine dW (N:=ns.length) (fun j ys H'=>H'=H9/\ys=(((ns.take j).map (·.2)).filterMap (tf bD)).map V.int) ⟨rfl,rfl⟩ ?_ ?_
      ·rintro j ys H10 Ny hj ⟨rfl,rfl⟩ ny
       refine⟨⟨_,_,aB.of iI,eO hj⟩,small ?_,?_⟩
       ·rw[Ja]
        have h1:=List.length_filterMap_le (tf bD) ((ns.take j).map (·.2))
        rw[Ja,J3] at h1
        omega
       rintro y oj ⟨rfl,hy⟩
       have e:=hy _ (aB.of iI)
       rw[eO hj] at e;cases e
       have hq:=oy _ (Jw hj)
       have yU:ns[j].2∈gE cs z.2:=by rw[<-en];exact Jz (Jw hj)
       have u4:=aA hj
       generalize ns[j]=y at hq yU u4
       refine ae.el (wo8.at (cU _ yU)) _ ?_
       rintro o ho _
       have mB:=cN.t (k:=pk y.2) wR hq
       rw[ho] at mB
       have step:∀x,(((ns.take (j+1)).map (·.2)).filterMap (tf bD))=((ns.take j).map (·.2)).filterMap (tf bD)++x↔[y.2].filterMap (tf bD)=x:=fun x=>by
        rw[u4,Jh,List.filterMap_append]
        exact⟨fun h=>U5 h,fun h=>by rw[<-h];rfl⟩
       cases o with
       | none=>
        refine gn ⟨_,rfl,_,rfl,wd,_,rfl,mB,.inl ⟨rfl,_,rfl,cM (ny _ _ ⟨rfl,?_⟩)⟩⟩
        rw[(step []).mpr (by rw[List.filterMap_cons_none (iV ho),List.filterMap_nil]),Ut]
       | some n=>
        refine gn ⟨_,rfl,_,rfl,wd,_,rfl,mB,.inl ⟨rfl,_,rfl,eh ⟨_,rfl,_,rfl,wd,_,rfl,mB,.inl ⟨_,_,rfl,rfl,ny _ _ ⟨rfl,?_⟩⟩⟩⟩⟩
        rw[(step [(n:Int)+1]).mpr (by rw[List.filterMap_cons_some (gR ho),List.filterMap_nil]),Jh];rfl
      ·rintro ys H10 ⟨rfl,rfl⟩
       rw[J0,en,<-hL]
       exact⟨⟨_,aB.of iI,by unfold refs;rw[Ja];exact Je _⟩,fun tp oj n11=>qn _ _ ⟨tp,rfl,n11⟩⟩
     intro v H10
     refine ae.go ?_
     rintro tp rfl n10
     refine gn ?_
     have fin:∀{o:Option Nat} {oj:Hp},aw H10 oj->((o=none/\L=[])∨∃m:Nat,o=some m/\(m:Int)∈L/\∀a∈L,a<=(m:Int))->∃H12,gj oj wd (.ref z.1) (ov o) H12/\(∀b o,b≠wd->H7 b=some o->H12 b=some o)/\H12 wd=some (.dT (bD++[(pk z.2,ov o)]))/\qk cs rs (bD++[(pk z.2,ov o)])/\(∀p,(aq kvs (pk p)).isSome=true->(aq (bD++[(pk z.2,ov o)]) (pk p)).isSome=true)/\(∀y∈ms.take (i+1),(aq (bD++[(pk z.2,ov o)]) (pk y.2)).isSome=true)/\∀p,(aq (bD++[(pk z.2,ov o)]) (pk p)).isSome=true->(aq kvs (pk p)).isSome=true∨p∈(ms.take (i+1)).map (·.2):=fun{o oj} s11 ht=>by
      rw[hL] at ht
      refine ae.el (BK zk1 zk2) _ ?_
      rintro _ _ e1 e2
      have hw:=wo8.put zk1 e1 e2 cU ht
      have hs:=n10.same.trans s11
      have val:∀p,aq (bD++[(pk z.2,ov o)]) (pk p)=if pk p=pk z.2 then some (ov o) else aq bD (pk p):=fun p=>by rw[<-cz (ov o) FD,eX]
      refine⟨_,gj.t (k:=pk z.2) (hs _ _ wR) (hs _ _ HQ) (big (Jq (wo8.le pr) (by decide))),?_⟩
      rw[cz _ FD]
      refine⟨fun b o' hb e=>by rw[aj hb];exact hs _ _ (k8 b o' hb e),aE,wo8.more zk1 FD hw,fun p hp =>?_,fun y hy =>?_,fun p hp =>?_⟩
      ·rw[val];split
       ·rfl
       ·exact m8 p hp
      ·rw[val];split
       ·rfl
       ·rename_i h
        rw[ck] at hy
        rcases Jj.mp hy with hy|hy
        ·exact d8 y hy
        ·exact absurd (by rw[Jb.mp hy]) h
      ·rw[val] at hp
       rw[ck,Jh]
       split at hp
       ·rename_i h
        exact .inr (Ji _ (Jb.mpr (i0 h)))
       ·exact(b8 p hp).imp id fun h=>Jx _ h
     refine⟨_,rfl,by show 0<=sizeLine;decide,fun p11 oj n11 =>.inr ⟨_,_,Den.list (aB.of (n11.same _ _ n10.at)) (Den.ints L),Den.list (aB.of n11.at) (by unfold aR;rfl),(pq (n:=1) L).shaped (by decide),g9,_,rfl,?_⟩⟩
     rw[jd,List.isEmpty_map]
     by_cases hLe:L=[]
     ·have e:(!L.isEmpty)=false:=by rw[hLe];rfl
      rw[e]
      refine ae.el (fin (o:=none) n11.same (.inl ⟨rfl,hLe⟩)) _ ?_
      rintro H12 hput f1 f2 f3 f4 f5 f6
      exact cM ⟨_,rfl,_,rfl,wd,H12,rfl,hput,_,_,_,rfl,f1,f2,f3,f4,f5,f6⟩
     ·have e:(!L.isEmpty)=true:=by cases L with|nil=>exact absurd rfl hLe|cons _ _=>rfl
      rw[e]
      refine eh ⟨_,rfl,tp,L,rfl,aB.of (n11.same _ _ n10.at),hLe,fun M hM hmx =>?_⟩
      obtain⟨n,rfl⟩:=Ln M hM
      refine ae.el (fin (o:=some (n+1)) n11.same (.inr ⟨n+1,rfl,hM,hmx⟩)) _ ?_
      rintro H12 hput f1 f2 f3 f4 f5 f6
      exact⟨_,rfl,_,rfl,wd,H12,rfl,hput,_,_,_,rfl,f1,f2,f3,f4,f5,f6⟩
    ·intro σ H8
     refine ae.go ?_
     rintro x6 x7 bD rfl k8 wR wo8 m8 d8 b8
     rw[J0] at d8 b8
     have BQ:sp≠wd:=fun z=>by rw[z,oo] at hsp0;cases hsp0
     exact⟨⟨_,aB.of (k8 _ _ BQ hsp7),by unfold refs;rw[Ja];exact Je _⟩,nx2 _ _ ⟨x6,x7,bD,rfl,k8,wR,wo8,m8,d8,b8⟩⟩
   intro σ H8
   refine ae.go ?_
   rintro x6 x7 bD rfl k8 wR wo8 m8 d8 b8
   have BQ:sp≠wd:=fun z=>by rw[z,oo] at hsp0;cases hsp0
   have JP:lp≠wd:=fun z=>by rw[z,oo] at hlp6;cases hlp6
   have lI:=k8 _ _ JP D0
   have pK:∀{y:Addr×(Str×Str)},bH H7 y->bH H8 y:=fun{y} h=>k8 _ _ (fun e=>by have h:=h;unfold bH at h;rw[e,xT] at h;cases h) h
   have FG:∀z∈zs,bH H8 z:=fun z hz=>pK (GI z hz)
   have s8:aw H H8:=fun b o e=>k8 _ _ (ai e Aw) (s7 b o e)
   have Io:∀r∈rs,fA cs H8 r:=fun r hr=>by
    obtain⟨ys,h1,h2,h3⟩:=GN r hr
    exact⟨ys,k8 _ _ (fun e=>by rw[e,xT] at h1;cases h1) h1,h2,fun y hy=>pK (h3 y hy)⟩
   obtain⟨G,hG⟩:∃G:Addr×(Str×Str)->Bool,G=fun z => !(aq bD (pk z.2)).isSome:=⟨_,rfl⟩
   refine dk (te:=fB _ _ _ _ _ _) (fun v H'=>∃p,v = .ref p/\dz H8 p (.lst (refs (zs.filter G))) H') (fun Qn qn =>?_) ?_
   ·refine⟨_,rfl,lp,rfl,⟨_,aB.of lI⟩,?_⟩
    refine dW (N:=zs.length) (fun i ys H'=>H'=H8/\ys=refs ((zs.take i).filter G)) ⟨rfl,rfl⟩ ?_ ?_
    ·rintro i ys H9 Ny hi ⟨rfl,rfl⟩ ny
     refine⟨⟨_,_,aB.of lI,eO hi⟩,big ?_,?_⟩
     ·unfold refs
      rw[Ja]
      have h1:=Yk G (zs.take i)
      rw[J3] at h1
      omega
     rintro y H10 ⟨rfl,hy⟩
     have e:=hy _ (aB.of lI)
     rw[eO hi] at e;cases e
     have Bk:=FG _ (Jw hi)
     have ck:=aA hi
     generalize zs[i]=z at Bk ck
     refine gn ⟨_,rfl,_,rfl,wd,_,rfl,cN.t (k:=pk z.2) wR Bk,_,rfl,?_⟩
     have eG:(!(aq bD (pk z.2)).isSome)=G z:=by rw[hG]
     rw[eG]
     have ef:(zs.take (i+1)).filter G=(zs.take i).filter G++(if G z=true then [z] else []):=by
      rw[ck,List.filter_append]
      congr 1
      by_cases h:G z=true
      ·rw[if_pos h,Y6,if_pos h,List.filter_nil]
      ·rw[if_neg h,Y6,if_neg h,List.filter_nil]
     refine eK (fun c=>⟨_,rfl,ny _ _ ⟨rfl,?_⟩⟩) (fun c=>ny _ _ ⟨rfl,?_⟩)
     ·rw[ef,if_pos c];unfold refs;rw[Jh];rfl
     ·rw[ef,if_neg c,Ut]
    ·rintro ys H9 ⟨rfl,rfl⟩
     rw[J0]
     exact⟨⟨_,aB.of lI,by unfold refs;rw[Ja];exact Je _⟩,fun p H10 n10=>qn _ _ ⟨p,rfl,n10⟩⟩
   intro v H9
   refine ae.go ?_
   rintro lp' rfl n9
   refine gn ?_
   have FZ:=n9.same _ _ (k8 _ _ BQ hsp7)
   have D4:∀z∈ms,jL z.2.1/\jL z.2.2:=fun z hz=>by
    refine ae.el (zk z (wJ z hz).1) _ ?_
    rintro h1 h2 _
    obtain⟨h3,_⟩:=BK h1 h2
    exact⟨h3.1.bin g,h3.2.bin g⟩
   have mN:∀z,z∈zs.filter G↔z∈zs/\aq bD (pk z.2)=none:=fun z=>by
    rw[Y9,hG]
    refine and_congr Iff.rfl ?_
    show(!(aq bD (pk z.2)).isSome)=true↔_
    cases aq bD (pk z.2) with
    | none=>exact⟨fun _=>rfl,fun _=>rfl⟩
    | some v=>exact⟨(fun h=>nomatch h),fun h=>nomatch h⟩
   refine⟨_,rfl,by show 0<=sizeLine;decide,fun p10 H10 n10 =>.inr ⟨_,_,Den.list (aB.of (n10.same _ _ FZ)) (uM fun z hz=>((FG z (wJ z hz).1).same n9.same).same n10.same),Den.list (aB.of n10.at) (by unfold aR;rfl),Fv D4,g9,?_⟩⟩
   rw[jd,List.isEmpty_map]
   have uN:=n9.same.trans n10.same
   have La:=Yk G zs
   refine⟨2*(zs.filter G).length+(if (!ms.isEmpty)=true then 1 else 0),?_,lp',zs.filter G,bD, !ms.isEmpty,_,_,_,rfl,rfl,s8.trans uN,uN _ _ (k8 _ _ dw vw),fun r hr=>(Io r hr).same uN,n10.same _ _ n9.at,fun z hz=>(FG z ((mN z).mp hz).1).same uN,List.Nodup.sublist (List.Sublist.map _ List.filter_sublist) znd,fun z hz =>?_,uN _ _ wR,wo8,fun p hp =>?_,fun hm z hz =>?_⟩
   ·cases hmm:ms with
    | nil=>simp;omega
    | cons y ys=>
     have hy:y∈ms:=by rw[hmm];exact Jp
     have:(zs.filter G).length<zs.length:=by
      refine List.length_filter_lt_length_iff_exists.mpr ⟨y,(wJ y hy).1,?_⟩
      rw[hG]
      show ¬(!(aq bD (pk y.2)).isSome)=true
      rw[d8 y hy];decide
     show 2*_+1<_
     omega
   ·obtain⟨h1,h2⟩:=(mN z).mp hz
    exact⟨(zk z h1).1,(zk z h1).2.1,h2⟩
   ·rcases cov p hp with h|h
    ·refine ae.el (Jv.mp h) _ ?_
     rintro z hz rfl
     cases hv:aq bD (pk z.2) with
     | none=>exact .inl (Jz ((mN z).mpr ⟨hz,hv⟩))
     | some v=>exact .inr rfl
    ·exact .inr (m8 p h)
   ·have HJ:ms=[]:=by
     cases hmm:ms with
     | nil=>rfl
     | cons y ys=>rw[hmm] at hm;cases hm
    obtain⟨h1,h2⟩:=(mN z).mp hz
    have hF:¬Fz z=true:=fun h=>by
     have:z∈ms:=by rw[hms];exact Y9.mpr ⟨h1,h⟩
     rw[HJ] at this;cases this
    rw[hFz] at hF
    have hF:¬ ∀q∈gE cs z.2,(aq kvs (pk q)).isSome=true:=fun h=>hF (List.all_eq_true.mpr h)
    refine Classical.byContradiction fun uK=>hF fun q hq =>?_
    refine Classical.byContradiction fun hn'=>uK ⟨q,hq,?_⟩
    cases hv:aq bD (pk q) with
    | none=>rfl
    | some v=>
     rcases b8 q (by rw[hv];rfl) with h|h
     ·exact absurd h hn'
     ·rw[HJ] at h;cases h
 intro σ H6
 refine ae.go ?_
 rintro lp zs kvs x5 x6 x7 rfl s6 hlp6 hz6 zk oo wo cov fixp
 have uF:∀z∈zs,jL z.2.1/\jL z.2.2:=fun z hz=>by
  obtain⟨h1,h2⟩:=zk z hz
  obtain⟨h3,_⟩:=BK h1 h2
  exact⟨h3.1.bin g,h3.2.bin g⟩
 refine⟨_,rfl,by show 0<=sizeLine;decide,fun p7 H7 n7 =>.inr ⟨_,_,Den.list (aB.of (n7.same _ _ hlp6)) (uM fun z hz=>(hz6 z hz).same n7.same),Den.list (aB.of n7.at) (by unfold aR;rfl),Fv uF,g9,_,rfl,?_⟩⟩
 rw[jd,List.isEmpty_map]
 have s7:=s6.trans n7.same
 cases zs with
 | cons z zs'=>
  refine eh (fun e8 H8 n8=>q _ _ (s7.trans n8.same) ⟨e8,rfl,.inl ⟨.inl ⟨[],.inl n8.at,rfl⟩,?_⟩⟩)
  have CB:∀{sp:Sg×Sg} {o:Option Nat},Wv (cs.map sg) sp o->∀y∈z::zs',gC y.2=sp->False:=fun{sp o} h=>by
   induction h with
   | fin=>
    intro y hy e
    obtain⟨h1,h2⟩:=zk y hy
    refine ae.el (BK h1 h2) _ ?_
    rintro _ _ h3 _
    injection e with e1 _
    exact h3 e1
   | step p f v h1 h2 h t ih=>
    intro y hy e
    refine ae.el (fixp y hy) _ ?_
    rintro q' hq' hv
    have hk:=pr.cl _ (zk y hy).1 q' hq'
    have gU:=(cov q' hk).resolve_right (by rw[hv];exact fun z=>nomatch z)
    refine ae.el (Jv.mp gU) _ ?_
    rintro y' Fq e'
    refine ih (gC q') ?_ y' Fq (by rw[e'])
    rw[<-e,<-pQ];exact Jz hq'
  obtain⟨h1,h2⟩:=zk z Jp
  exact⟨gC z.2,(BK h1 h2).2.1,fun o h=>CB h z Jp rfl⟩
 | nil=>
  have all:∀p∈rs.map (·.1),∃o,aq kvs (pk p)=some (ov o)/\Wv (cs.map sg) (gC p) o:=fun p hp=>wo.at ((cov p hp).resolve_left fun z=>nomatch z)
  refine cM ⟨_,rfl,q _ _ s7 ⟨wd,rfl,.inr ⟨kvs,n7.same _ _ oo,fun z =>?_,fun p hp =>?_,fun d' hd' k h1 h2 p e1 e2=>all p (pr.ini d' hd' k h1 h2 p e1 e2)⟩⟩⟩
  ·refine ae.el (all eP pr.fin) _ ?_
   rintro o ho _
   rw[z] at ho;cases ho
  ·refine Rc.worth (fun k d' c h1 h2 hd' hc =>?_) hp
   refine ae.el (Jv.mp hd') _ ?_
   rintro d'' hd'' rfl
   refine ae.el (Jv.mp hc) _ ?_
   rintro c' jT rfl
   refine ae.el (all (⟨((sg d'').drop k).toArray⟩,c') (pr.ini d'' hd'' k h1 h2 _ (by show((sg d'').drop k).toArray.toList=_;rw[Yh]) jT)) _ ?_
   rintro o _ hw
   refine⟨o,?_⟩
   have e:gC ((⟨((sg d'').drop k).toArray⟩:Str),c')=((sg d'').drop k,sg c'):=by
    show(((sg d'').drop k).toArray.toList,sg c')=_
    rw[Yh]
   rw[e] at hw
   exact hw
end
noncomputable def W1 (cs:List Sg)(a:Nat):Prop:=dR fun(k:Nat) (d c:Sg)=>1<=k/\k<d.length/\d∈cs/\c∈cs/\Wv cs (d.drop k,c) (some a)
noncomputable def B1 (cs:List Str)(v:V):Prop:=(v = .non/\∃p,Rc (cs.map sg) p/\∀o,¬Wv (cs.map sg) p o)∨∃m:Nat,v = .int m/\(∀p,Rc (cs.map sg) p->∃o,Wv (cs.map sg) p o)/\HV (W1 (cs.map sg)) m
noncomputable def vj (K:Jd):Sp:=fun vs H Q _=>bV fun(l:Addr) (cs:List Str)=>vs=[.ref l]/\H l=some (.lst (cs.map V.str))/\jQ cs /\
 ∀(v:V) (H':Hp),aw H H'->B1 cs v->Q v H'
noncomputable def Dm (cs:List Str)(H3:Hp)(fp:Addr)(i k:Nat)(H':Hp):Prop:=∃ns:List Nat,(∀b o,b≠fp->H3 b=some o->H' b=some o)/\H' fp=some (.lst (nI ns))/\ns≠[]/\ns.length<=200*i+16*k+1/\(∀a∈ns,a=0∨W1 (cs.map sg) a)/\0∈ns/\(∀d∈cs.take i,∀k,1<=k->k<(sg d).length->∀c∈cs,∀a,Wv (cs.map sg) ((sg d).drop k,sg c) (some a)->a∈ns)/\∀d,cs[i]? = some d->∀j,1<=j->j<=k->j<(sg d).length->∀c∈cs,∀a,Wv (cs.map sg) ((sg d).drop j,sg c) (some a)->a∈ns
section
variable {P:Program}{w:World}{K:Jd}{mg:Str->Option Value}{base:Heap}{f:Addr}{fd:FuncData}
theorem cK:bb ["_law_codes", "_law_worths_here", "_law_found", "_law_code", "_law_place", "_law_some"] ["_law_codes"] (aF (top ij)):=⟨rfl,rfl,rfl,by decide +kernel,rfl,by decide +kernel,by decide +kernel⟩
theorem Bf (F:d5 K "_law_due" "_law_due" (top ij) f fd)(T:Nm mg)(lP:Fn P w K mg base 3 "_law_worths" ["_law_codes"] (qh K)):cf P w K mg base ir 4 f fd ["_law_codes"] (vj K):=by
 refine F.ok cK (fun vs H Q E h =>?_) (fun dS A outer s H vs Q E hr h =>?_)
 ·obtain⟨l,cs,rfl,_⟩:=h
  rfl
 unfold vj at h
 refine ae.el h _ ?_
 clear h
 rintro l cs rfl hl g q
 have hu:=jE hr
 have hle:=g.le
 have small:∀{n:Nat},n<=10000->n<sizeLine:=fun h=>Uc h (by decide)
 have eO:∀{xs:List Str} {i:Nat} (hi:i<xs.length),(xs.map V.str)[i]? = some (.str xs[i]):=fun hi=>by rw[Jn,Jf hi];rfl
 refine⟨_,(ah (aG (i:=1) cK.nd rfl (Or.inr rfl) (bp (lP.mono (by decide)) hr rfl (aa (pv 0) ag)))
  (ah (cR (aI (JL (Uc (Yt _) hu)) (pv 1) qr (aQ _)) (ao (aX d9)) bu)
  (ah (aG (i:=2) cK.nd rfl (Or.inl rfl) (dm (aa ar ag)))
  (ah (cT PassesOwn.never rfl (iz K (pv 0)) (ak (i:=3) cK.nd rfl (Or.inr rfl)) (ao (cT PassesOwn.never rfl (gW rfl T.n_range (aa ar (aa (az (dP K) rfl T.n_len (by rfl) (aa (pv 3) ag)) ag))) (ak (i:=4) cK.nd rfl (Or.inr rfl)) (ah (bL (i:=5) cK.nd rfl (Or.inl rfl) rfl (aO (Nc:=["_law_other"]) (Fc:=["_law_worths_here", "_law_code", "_law_place"]) (js:=[1,3,4])) (iz K (pv 0)) (aD (i:=0) (n:=1) (by decide)) (fun _ _ _ _ _=>(ak (i:=0) (fJ ["_law_other", "_law_worths_here", "_law_code", "_law_place"]) rfl (Or.inl rfl))) (fun _ _ _ _ _=>bJ) (fun _ _ _ _ _=>(cc hu (pv 1) (gK (aa (cD (zP K) (pv 2) (cZ (pv 3)) dc) (aa (pv 0) ag))) (fun _ _=>rfl))))
  (ao (cY (rA K PySem.F.plainAttrs_list PySem.F.slot_list_extend PySem.F.type_list_extend iL (pv 2) (aa (bR rfl (aO (Nc:=["_law_worth"]) (Fc:=[]) (js:=[])) (iz K (pv 5)) (aD (i:=0) (n:=1) (by decide)) (fun _ _ _ _ _=>(ak (i:=0) (fJ ["_law_worth"]) rfl (Or.inl rfl))) (fun _ _ _ _ _=>(df (aI lR (pv 0) d9 (aQ _)))) (fun _ _ _ _ _=>(pv 0))) ag))))))))
  (ao (aX (az (xZ K rfl) rfl T.n_max (by rfl) (aa (pv 2) ag)))))))),?_⟩
 refine⟨_,rfl,l,cs,rfl,hl,g,fun v H1 s1 hw=>gn ?_⟩
 obtain⟨wd,rfl,hw⟩:=hw
 dsimp only
 refine⟨_,rfl,fun e2 H2 n2 =>?_⟩
 have s2:=s1.trans n2.same
 have GO:DN H2 e2 0 := .inl ⟨[],.inl n2.at,rfl⟩
 have AD:∀{n:Nat},DN H1 wd n->DN H2 wd n:=fun h=>by
  rcases h with ⟨kvs,h|⟨o,h⟩,e⟩|⟨kvs,h|⟨o,h⟩,e⟩
  ·exact .inl ⟨kvs,.inl (n2.same _ _ h),e⟩
  ·exact .inl ⟨kvs,.inr ⟨o,n2.same _ _ h⟩,e⟩
  ·exact .inr ⟨kvs,.inl (n2.same _ _ h),e⟩
  ·exact .inr ⟨kvs,.inr ⟨o,n2.same _ _ h⟩,e⟩
 rcases hw with ⟨dn,uK⟩|⟨kvs,hkv,kne,cU,gc⟩
 ·exact⟨wd,e2,0,rfl,rfl,AD dn,GO,_,rfl,eh (q _ _ s2 (.inl ⟨rfl,uK⟩))⟩
 have Av:=n2.same _ _ hkv
 refine⟨wd,e2,kvs.length,rfl,rfl,.inr ⟨kvs,.inl Av,rfl⟩,GO,_,rfl,?_⟩
 have ek:(kvs.length==0)=false:=by cases kvs with|nil=>exact absurd rfl kne|cons _ _=>rfl
 rw[ek]
 refine cM ⟨by show 1<=sizeLine;decide,fun fp H3 n3=>gn ?_⟩
 have s3:=s2.trans n3.same
 have yi:H fp=none:=by
  cases e:H fp with
  | none=>rfl
  | some o=>have:=n3.nn;rw[s2 _ _ e] at this;cases this
 have JV:=n3.same _ _ Av
 have IT:wd≠fp:=ai Av n3.nn
 dsimp only
 refine bW (t:=lA _ _ _) (fun σ H'=>dR fun(x3 x4 x5:Option V) =>σ=[some (.ref l),some (.ref wd),some (.ref fp),x3,x4,x5]/\Dm cs H3 fp cs.length 0 H') (fun Nx nx =>?_) ?_
 ·refine⟨_,rfl,l,rfl,⟨_,aB.of (s3 _ _ hl)⟩,?_⟩
  refine dJ (N:=cs.length) (fun i σ H'=>dR fun(x3 x4 x5:Option V) =>σ=[some (.ref l),some (.ref wd),some (.ref fp),x3,x4,x5]/\Dm cs H3 fp i 0 H') ⟨_,_,_,rfl,[0],(fun b o _ e=>e),n3.at,(fun z=>nomatch z),by show 1<=1;decide,(fun a ha =>.inl (Jb.mp ha)),Jb.mpr rfl,(fun d h=>nomatch h),fun d _ j h1 h2=>absurd h1 (by omega)⟩ ?_ ?_
  ·intro i σ H4 hi
   refine ae.go ?_
   rintro x3 x4 x5 rfl I4
   have EU:∀{H':Hp} {k:Nat},Dm cs H3 fp i k H'->H' l=some (.lst (cs.map V.str)):=fun⟨_,k,_⟩=>k _ _ (ai hl yi) (s3 _ _ hl)
   refine⟨⟨_,_,aB.of (EU I4),eO hi⟩,?_⟩
   rintro v H5 ⟨rfl,hv⟩
   have e:=hv _ (aB.of (EU I4))
   rw[eO hi] at e;cases e
   refine gn ?_
   have BX:cs[i]? = some cs[i]:=Jf hi
   have hm:=Jw hi
   have hc:=g.cd _ hm
   have ck:=aA hi
   generalize cs[i]=c at hm hc ck BX
   have IL:=hc.pos
   have yB:=hc.le
   have ec:c.length=(sg c).length:=str_len c
   dsimp only
   refine⟨_,rfl,_,_,rfl,⟨sizeOk (by omega),rfl⟩,1,(c.length:Nat),rfl,⟨by omega,by omega,by omega,by omega⟩,?_⟩
   refine dJ (N:=c.length-1) (fun k σ H'=>bV fun(x4 x5:Option V) =>σ=[some (.ref l),some (.ref wd),some (.ref fp),some (.str c),x4,x5]/\Dm cs H3 fp i k H') ⟨_,_,rfl,I4⟩ ?_ ?_
   ·intro k σ H6 hk
    refine ae.go ?_
    clear I4
    rintro x4 x5 rfl I6
    refine⟨by show k<_;omega,?_⟩
    rintro v H7 ⟨rfl,rfl⟩
    refine gn ?_
    have Au:=EU I6
    obtain⟨ns,k7,Bo,nne,nl,nin,n0,ncov,nck⟩:=I6
    have K6:=k7 _ _ IT JV
    obtain⟨r,iI⟩:∃r,r=Txt.slice c (some ((1+k:Nat):Int)) none:=⟨_,rfl⟩
    have er:sg r=(sg c).drop (1+k):=by rw[iI];exact fz (x:=c) (1+k)
    dsimp only
    refine dk (te:=fB _ _ _ _ _ _) (fun v H'=>bV fun(sp:Addr) (os:List (Option Nat))=>v = .ref sp/\aw H7 H'/\H' sp=some (.lst (os.map ov))/\os.length=cs.length/\∀(j:Nat) (o:Option Nat),os[j]? = some o->∃c',cs[j]? = some c'/\Wv (cs.map sg) ((sg c).drop (1+k),sg c') o) (fun Qn qn =>?_) ?_
    ·refine⟨_,rfl,l,rfl,⟨_,aB.of Au⟩,?_⟩
     refine bA (N:=cs.length) (fun j ys H'=>∃os:List (Option Nat),ys=os.map ov/\aw H7 H'/\os.length=j/\∀(j:Nat) (o:Option Nat),os[j]? = some o->∃c',cs[j]? = some c'/\Wv (cs.map sg) ((sg c).drop (1+k),sg c') o) ⟨[],rfl,aw.refl _,rfl,fun j o h=>nomatch h⟩ ?_ ?_
     ·intro j ys H8 Ny hj hz_ ny
      refine ae.el hz_ _ ?_
      clear hz_
      rintro os rfl s8 ol ho
      refine⟨⟨_,_,aB.of (s8 _ _ Au),eO hj⟩,small (by rw[Ja];omega),?_⟩
      rintro v H9 ⟨rfl,hv⟩
      have e:=hv _ (aB.of (s8 _ _ Au))
      rw[eO hj] at e;cases e
      have HE:cs[j]? = some cs[j]:=Jf hj
      have zc:=Jw hj
      generalize cs[j]=cj at HE zc
      refine gn ?_
      dsimp only[lz]
      rw[if_pos rfl]
      refine⟨_,rfl,_,rfl,_,rfl,_,rfl,?_⟩
      dsimp only[fL]
      refine .inr ⟨c,rfl,sizeOk (by omega),?_⟩
      rw[show((1:Int)+(k:Int))=((1+k:Nat):Int) by omega,<-iI]
      obtain⟨o,ho',hw'⟩:=gc c hm (1+k) (by omega) (by omega) (r,cj) er zc
      refine⟨_,rfl,by show 2<=sizeLine;decide,fun t H10 n10=>⟨wd,ov o,rfl,?_,ny _ _ ⟨os++[o],by rw[Jh];rfl,s8.trans n10.same,by rw[Jg,ol];rfl,fun j' o' h =>?_⟩⟩⟩
      ·have:=cN.t (k:=pk (r,cj)) (n10.same _ _ (s8 _ _ K6)) n10.at
       rw[ho'] at this
       exact this
      ·by_cases hjj:j'<j
       ·rw[Uh (by omega)] at h
        exact ho j' o' h
       ·rw[Ua (by omega),ol] at h
        have e0:j'-j=0:=by
         cases hz:j'-j with
         | zero=>rfl
         | succ n=>rw[hz] at h;cases h
        have ej:j'=j:=by omega
        subst ej
        rw[e0] at h
        cases h
        refine⟨cj,HE,?_⟩
        rw[<-er];exact hw'
     ·intro ys H8
      refine ae.go ?_
      rintro os rfl s8 ol ho
      exact⟨⟨_,aB.of (s8 _ _ Au),by rw[Ja];exact Je _⟩,fun p hp=>qn _ _ ⟨p,os,rfl,s8.trans (cA hp _),aE,ol,ho⟩⟩
    intro v H8
    refine ae.go ?_
    rintro sp os rfl s8 qC ol ho
    refine gn ?_
    have GP:∀{j:Nat} (hj:j<os.length),(os.map ov)[j]? = some (ov os[j]):=fun hj=>by rw[Jn,Jf hj];rfl
    have CY:=s8 _ _ Bo
    refine⟨_,rfl,.inl ⟨rfl,_,aB.of CY⟩,?_⟩
    refine⟨_,rfl,sp,rfl,⟨_,aB.of qC⟩,?_⟩
    refine bA (N:=os.length) (fun j ys H'=>H'=H8/\ys=nI ((os.take j).filterMap id)) ⟨rfl,rfl⟩ ?_ ?_
    ·rintro j ys H9 Ny hj ⟨rfl,rfl⟩ ny
     refine⟨⟨_,_,aB.of qC,GP hj⟩,small ?_,?_⟩
     ·unfold nI
      rw[Ja]
      have h1:=List.length_filterMap_le id (os.take j)
      rw[J3] at h1
      omega
     rintro v H10 ⟨rfl,hv⟩
     have e:=hv _ (aB.of qC)
     rw[GP hj] at e;cases e
     have u4:=aA hj
     generalize os[j]=o at u4
     cases o with
     | none=>
      refine gn ⟨_,rfl,.inl ⟨rfl,_,rfl,cM (ny _ _ ⟨rfl,?_⟩)⟩⟩
      rw[u4,List.filterMap_append,show[none].filterMap (id:Option Nat->Option Nat)=[] from rfl,Ut]
     | some n=>
      refine gn ⟨_,rfl,.inl ⟨rfl,_,rfl,eh ⟨_,rfl,ny _ _ ⟨rfl,?_⟩⟩⟩⟩
      rw[u4,List.filterMap_append,show[some n].filterMap (id:Option Nat->Option Nat)=[n] from rfl]
      unfold nI;rw[Jh];rfl
    ·rintro ys H9 ⟨rfl,rfl⟩
     refine⟨⟨_,aB.of qC,by rw[Ja];exact Je _⟩,fun p hp =>?_⟩
     rw[J0]
     obtain⟨H10,n10⟩:∃H10,dz H9 p (.lst (nI (os.filterMap id))) H10:=⟨_,hp,rfl⟩
     rw[<-n10.eq]
     have fl:=List.length_filterMap_le id os
     have oE:=n10.same _ _ CY
     have Fs:=s8.trans n10.same
     have mem:∀a,a∈os.filterMap id↔some a∈os:=fun a=>by
      rw[List.mem_filterMap]
      exact⟨fun⟨o,h,e⟩=>by rw[show o=some a from e] at h;exact h,fun h=>⟨_,h,rfl⟩⟩
     refine⟨fp,p,_,_,rfl,rfl,oE,n10.at,by rw[Ja,Ja];exact sizeOk (by omega),fun oj c11=>⟨_,_,rfl,ns++os.filterMap id,fun b o hb e =>?_,?_,?_,?_,fun a ha =>?_,Jx _ n0,fun d hd k' h1 h2 c' jT a ha =>?_,fun d hd j h1 h2 h3 c' jT a ha =>?_⟩⟩
     ·rw[c11.ne hb];exact Fs _ _ (k7 b o hb e)
     ·rw[c11.at];unfold nI;rw[Jh]
     ·intro z;exact nne (List.append_eq_nil_iff.mp z).1
     ·rw[Jg];omega
     ·rcases Jj.mp ha with ha|ha
      ·exact nin a ha
      ·obtain⟨j,hj⟩:=List.getElem?_of_mem ((mem a).mp ha)
       obtain⟨c',jT,hw'⟩:=ho j _ hj
       exact .inr ⟨1+k,sg c,sg c',by omega,by omega,Jz hm,Jz (Yo jT),hw'⟩
     ·exact Jx _ (ncov d hd k' h1 h2 c' jT a ha)
     ·by_cases hjk:j<=k
      ·exact Jx _ (nck d hd j h1 hjk h3 c' jT a ha)
      ·have ej:j=1+k:=by omega
       rw[BX] at hd;cases hd
       subst ej
       obtain⟨j',pV⟩:=List.getElem?_of_mem jT
       have Ad:j'<os.length:=by rw[ol];exact(Ju.mp pV).1
       obtain⟨c'',e1,hw'⟩:=ho j' _ (Jf Ad)
       rw[pV] at e1;cases e1
       have:=ha.one hw'
       refine Ji _ ((mem a).mpr ?_)
       rw[this];exact Jw Ad
   ·intro σ H6
    refine ae.go ?_
    clear I4
    rintro x4 x5 rfl ⟨ns,k7,Bo,nne,nl,nin,n0,ncov,nck⟩
    refine⟨by show _<=_;omega,_,_,_,rfl,ns,k7,Bo,nne,by omega,nin,n0,fun d hd k' h1 h2 c' jT a ha =>?_,fun d _ j h1 h2=>absurd h1 (by omega)⟩
    rw[ck] at hd
    rcases Jj.mp hd with hd|hd
    ·exact ncov d hd k' h1 h2 c' jT a ha
    ·have e:=Jb.mp hd
     exact nck c BX k' h1 (by rw[e] at h2;omega) (by rw[<-e];exact h2) c' jT a (by rw[<-e];exact ha)
  ·intro σ H4
   refine ae.go ?_
   rintro x3 x4 x5 rfl I4
   have rV:H4 l=some (.lst (cs.map V.str)):=by
    obtain⟨_,k,_⟩:=I4
    exact k _ _ (ai hl yi) (s3 _ _ hl)
   exact⟨⟨_,aB.of rV,by rw[Ja];exact Je _⟩,nx _ _ ⟨x3,x4,x5,rfl,I4⟩⟩
 intro σ H4
 refine ae.go ?_
 rintro x3 x4 x5 rfl ⟨ns,k4,hf4,nne,nl,nin,n0,ncov,_⟩
 rw[J0] at ncov
 have ei:nI ns=(ns.map fun n:Nat=>(n:Int)).map V.int:=by unfold nI;rw[Ym];rfl
 rw[ei] at hf4
 have s4:aw H H4:=fun b o e=>k4 b o (ai e yi) (s3 b o e)
 refine⟨_,rfl,fp,_,rfl,aB.of hf4,fun z=>nne (List.map_eq_nil_iff.mp z),fun M hM hmx =>?_⟩
 obtain⟨m,hm,rfl⟩:=Jv.mp hM
 refine q _ _ s4 (.inr ⟨m,rfl,cU,nin m hm,fun a ha =>?_⟩)
 obtain⟨k,d,c,h1,h2,hd,hc,hw⟩:=ha
 obtain⟨d',hd',rfl⟩:=Jv.mp hd
 obtain⟨c',jT,rfl⟩:=Jv.mp hc
 have:=hmx _ (Jz (ncov d' hd' k h1 h2 c' jT a hw))
 omega
end
noncomputable def oV:Option Nat->Option V:=fun o=>o.map fun n=>V.int (n:Nat)
noncomputable def GZ (B:List (Str×Str))(v:V):Prop:=(v = .non/\∃r,ie B r/\¬En (jx B) (sg r))∨∃m:Nat,v = .int m/\(∀r,ie B r->∃o,Dl (jx B) (sg r) o)/\HV (fun a=>∃r,ie B r/\Dl (jx B) (sg r) (some a)) m
noncomputable def wL (K:Jd):Sp:=fun vs H Q _=>bV fun(l:Addr) (B:List (Str×Str))=>vs=[.ref l]/\w5 K H B l/\fT B /\
 ∀(v:V) (H':Hp),aw H H'->GZ B v->Q v H'
structure vJ (B:List (Str×Str))(us:List Str)(cw:List (Key×V)):Prop where
 nd:(cw.map (·.1)).Nodup
 ks:∀k∈cw.map (·.1),∃x∈us,k = .inr x
 at':∀x∈us,∃o,Dl (jx B) (sg x) o/\aq cw (.inr x)=oV o
theorem vJ.no {B:List (Str×Str)}{us:List Str}{cw:List (Key×V)}(h:vJ B us cw){x:Str}(hx:x∉us):aq cw (.inr x)=none:=by
 cases hv:aq cw (.inr x) with
 | none=>rfl
 | some v=>
  obtain⟨y,hy,e⟩:=h.ks _ (iT hv)
  injection e with e
  exact absurd (by rw[show x=y from e];exact hy) hx
theorem vJ.le {B:List (Str×Str)}{us:List Str}{cw:List (Key×V)}(h:vJ B us cw):cw.length<=us.length:=by
 have:=bj (m:=us.map Sum.inr) h.nd fun k hk=>by
  obtain⟨x,hx,rfl⟩:=h.ks k hk
  exact Jz hx
 rwa[Ja,Ja] at this
theorem pz {o:Option Nat}{v:V}:oV o=some v ↔ ∃n:Nat,o=some n/\v = .int n:=by
 cases o with
 | none=>simp[oV]
 | some n=>simp[oV,eq_comm]
theorem vJ.more {B:List (Str×Str)}{us:List Str}{cw yD:List (Key×V)}(h:vJ B us cw){x:Str}(hx:x∉us){ns:List Nat}(lt:∀q∈B,∀r,Bh q x r->r∈us)
  (mem:∀a,a∈ns↔(((∃q∈B,q.2=x)/\a=x.length)∨∃q∈B,∃r,∃n:Nat,Bh q x r/\aq cw (.inr r)=some (.int n)/\a=min x.length q.2.length+n))
  (t:(ns=[]/\yD=cw)∨∃m,m∈ns/\(∀a∈ns,a<=m)/\yD=cw++[(.inr x,.int (m:Nat))]):vJ B (us++[x]) yD:=by
 have key:∀o,((ns=[]/\o=none)∨∃m,m∈ns/\(∀a∈ns,a<=m)/\o=some m)->Dl (jx B) (sg x) o:=fun o ho=>by
  obtain⟨f,hf⟩:∃f:Sg->Option Nat,∀r∈us,Dl (jx B) (sg r) (f (sg r))/\aq cw (.inr r)=oV (f (sg r)):=by
   refine⟨fun s=>open Classical in if hs:∃o,Dl (jx B) s o/\aq cw (.inr (toS s))=oV o then hs.choose else none,fun r hr =>?_⟩
   have hs:∃o,Dl (jx B) (sg r) o/\aq cw (.inr (toS (sg r)))=oV o:=by rw[tw];exact h.at' r hr
   have ev:aq cw (.inr r)=aq cw (.inr (toS (sg r))):=by rw[tw]
   dsimp only
   rw[dif_pos hs]
   exact⟨hs.choose_spec.1,ev.trans hs.choose_spec.2⟩
  have bP:∀{c r:Sg},c∈jx B->Lt c (sg x) r->∃q∈B,sg q.2=c/\Bh q x (toS r)/\toS r∈us:=fun{c r} hc hl=>by
   obtain⟨q,hq,rfl⟩:=cW.mp hc
   have hb:Bh q x (toS r):=lC.mpr (by rw[gb];exact hl)
   exact⟨q,hq,rfl,hb,lt q hq _ hb⟩
  refine .mk _ f _ (fun c hc r hl =>?_) ?_
  ·obtain⟨q,hq,_,hb,hr⟩:=bP hc hl
   have:=(hf _ hr).1
   rw[gb] at this
   exact this
  ·have iff:∀a,a∈ns↔((sg x∈jx B/\a=(sg x).length)∨∃c∈jx B,∃r d,Lt c (sg x) r/\f r=some d/\a=min (sg x).length c.length+d):=fun a=>by
    have ex:x.length=(sg x).length:=str_len x
    rw[mem,ex]
    refine or_congr (and_congr ⟨fun⟨q,hq,e⟩=>cW.mpr ⟨q,hq,by rw[e]⟩,fun h =>?_⟩ Iff.rfl) ⟨fun⟨q,hq,r,n,hb,hv,e⟩=>?_,fun⟨c,hc,r,d,hl,hv,e⟩=>?_⟩
    ·obtain⟨q,hq,e⟩:=cW.mp h
     exact⟨q,hq,dN e⟩
    ·have hr:=lt q hq r hb
     have h2:=(hf r hr).2
     rw[hv] at h2
     obtain⟨n',e1,e2⟩:=pz.mp h2.symm
     injection e2 with e2
     have e2:n=n':=by omega
     exact⟨sg q.2,cW.mpr ⟨q,hq,rfl⟩,sg r,n',lC.mp hb,e1,by rw[e,e2];rw[show q.2.length=(sg q.2).length from str_len _]⟩
    ·obtain⟨q,hq,rfl,hb,hr⟩:=bP hc hl
     have h2:=(hf _ hr).2
     rw[gb,hv] at h2
     exact⟨q,hq,toS r,d,hb,h2,by rw[e,show q.2.length=(sg q.2).length from str_len _]⟩
   rcases ho with ⟨hn,rfl⟩|⟨m,hm,hmx,rfl⟩
   ·refine .inl ⟨rfl,fun a ha =>?_⟩
    have:=(iff a).mpr ha
    rw[hn] at this;cases this
   ·exact .inr ⟨m,rfl,(iff m).mp hm,fun a ha=>hmx a ((iff a).mpr ha)⟩
 rcases t with ⟨hn,rfl⟩|⟨m,hm,hmx,rfl⟩
 ·refine⟨h.nd,fun k hk =>?_,fun y hy =>?_⟩
  ·obtain⟨y,hy,e⟩:=h.ks k hk
   exact⟨y,Jx _ hy,e⟩
  ·rcases Jj.mp hy with hy|hy
   ·exact h.at' y hy
   ·rw[Jb.mp hy]
    exact⟨none,key none (.inl ⟨hn,rfl⟩),h.no hx⟩
 ·have hv:=h.no hx
  have val:∀y,aq (cw++[(.inr x,V.int (m:Nat))]) (.inr y)=if (Sum.inr y:Key) = .inr x then some (.int (m:Nat)) else aq cw (.inr y):=fun y=>by rw[<-cz (V.int (m:Nat)) hv,eX]
  refine⟨?_,fun k hk =>?_,fun y hy =>?_⟩
  ·rw[Jh]
   exact List.nodup_append.mpr ⟨h.nd,by simp,fun a ha b hb e=>e7 hv (by have z:b = .inr x:=Jb.mp hb;rw[<-z,<-e];exact ha)⟩
  ·rw[Jh] at hk
   rcases Jj.mp hk with hk|hk
   ·obtain⟨y,hy,e⟩:=h.ks k hk
    exact⟨y,Jx _ hy,e⟩
   ·exact⟨x,Ji _ (Jb.mpr rfl),Jb.mp hk⟩
  ·rw[val]
   rcases Jj.mp hy with hy|hy
   ·rw[if_neg (fun e=>hx (by injection e with e;rw[<-show y=x from e];exact hy))]
    exact h.at' y hy
   ·rw[Jb.mp hy,if_pos rfl]
    exact⟨some m,key _ (.inr ⟨m,hm,hmx,rfl⟩),rfl⟩
section
variable {P:Program}{w:World}{K:Jd}{mg:Str->Option Value}{base:Heap}{f:Addr}{fd:FuncData}
theorem aH:bb ["book", "ending", "codes", "delays", "lag", "found", "name", "code", "later"] ["book"] (aF (top cI)):=⟨rfl,rfl,rfl,by decide +kernel,rfl,by decide +kernel,by decide +kernel⟩
theorem BF (F:d5 K "greatest_delay" "greatest_delay" (top cI) f fd)(T:Nm mg)(jS:Fn P w K mg base 5 "ending_lags" ["book"] (vB K))(ik:Fn P w K mg base 4 "lags_of" ["book"] (uy K))(dG:Fn P w K mg base 2 "lags_behind" ["book", "lag"] (ue K)):cf P w K mg base ir 6 f fd ["book"] (wL K):=by
 refine F.ok aH (fun vs H Q E h =>?_) (fun dS A outer s H vs Q E hr h =>?_)
 ·obtain⟨l,B,rfl,_⟩:=h
  rfl
 unfold wL at h
 refine ae.el h _ ?_
 clear h
 rintro l B rfl hB gB q
 have hu:=jE hr
 have hW:=hr.units
 have hle:=gB.le
 have small:∀{n:Nat},n<=10000->n<sizeLine:=fun h=>Uc h (by decide)
 refine⟨_,(ah (aG (i:=1) aH.nd rfl (Or.inl rfl) (bp (jS.mono (by decide)) hr rfl (aa (pv 0) ag)))
  (ah (cR (aI (rS K hW) (az qU rfl T.n_len (by rfl) (aa (pv 1) ag)) (az (dP K) rfl T.n_len (by rfl) (aa (bp (ik.mono (by decide)) hr rfl (aa (pv 0) ag)) ag)) (aQ _)) (ao (aX d9)) bu)
  (ah (mw (i:=2) aH.nd rfl (Or.inl rfl) rfl (aO (Nc:=["name", "code"]) (Fc:=[]) (js:=[])) (iz K (pv 0)) (il (br (aD (i:=0) (n:=2) (by decide)) (br (aD (i:=1) (n:=2) (by decide)) fK aU bT) aU (cu aU bT))) (fun _ _ _ _ _=>(tupK K 2 rfl (aJ (ak (i:=0) (fJ ["name", "code"]) rfl (Or.inl rfl)) (aJ (ak (i:=1) (fJ ["name", "code"]) rfl (Or.inl rfl)) cL)))) (fun _ _ _ _ _=>bJ) (fun _ _ _ _ _=>(pv 1)) (fun _ _ _ _ _=>kb))
  (ah (aG (i:=3) aH.nd rfl (Or.inr rfl) qr)
  (ah (cT PassesOwn.never rfl (nJ (pv 1)) (ak (i:=4) aH.nd rfl (Or.inl rfl)) (ah (aG (i:=5) aH.nd rfl (Or.inl rfl) (fu (ic (lV hu (pv 4) (pv 2))) (dm (aa (az (dP K) rfl T.n_len (by rfl) (aa (pv 4) ag)) ag)) (dm ag)))
  (ah (cT PassesOwn.never rfl (iz K (bp (dG.mono (by decide)) hr rfl (aa (pv 0) (aa (pv 4) ag)))) (tupK K 3 rfl (aJ (ak (i:=6) aH.nd rfl (Or.inl rfl)) (aJ (ak (i:=7) aH.nd rfl (Or.inl rfl)) (aJ (ak (i:=8) aH.nd rfl (Or.inl rfl)) cL)))) (ao (cR (ic (lV hu (pv 8) (pv 3))) (ao (cY (rA K PySem.F.plainAttrs_list PySem.F.slot_list_append PySem.F.type_list_append lK (pv 5) (aa (aW eJ (az (qD rfl) rfl T.n_min (by rfl) (aa (az (dP K) rfl T.n_len (by rfl) (aa (pv 4) ag)) (aa (az (dP K) rfl T.n_len (by rfl) (aa (pv 7) ag)) ag))) (cc hu (pv 3) (pv 8) (fun _ _=>rfl))) ag)))) bu)))
  (ao (cR (mL (pv 5) fun _=>rfl) (ao (gI hu (pv 3) (pv 4) (az (xZ K rfl) rfl T.n_max (by rfl) (aa (pv 5) ag)) rfl)) bu)))))
  (ao (aX (j7 (maxD K rfl) rfl T.n_max (by rfl) (aa (wq (bR rfl (aO (Nc:=["lag"]) (Fc:=["delays"]) (js:=[3])) (nJ (pv 3)) (aD (i:=0) (n:=1) (by decide)) (fun _ _ _ _ _=>(ak (i:=0) (fJ ["lag", "delays"]) rfl (Or.inl rfl))) (fun _ _ _ _ _=>bJ) (fun _ _ _ _ _=>(cc hu (pv 1) (pv 0) (fun _ _=>rfl))))) ag) (pE ar rX))))))))),?_⟩
 refine⟨_,rfl,l,B,rfl,hB,gB,fun d E H1 s1 u6 hd1 ndE ordE eL ek=>gn ?_⟩
 dsimp only
 refine⟨_,rfl,d,_,rfl,hd1,_,rfl,l,B,rfl,hB.same s1,gB,fun ts p2 H2 s2 hp20 zF nd tl mem=>⟨_,_,rfl,.inl ⟨_,aB.of zF,rfl⟩,.inl ⟨rfl,_,rfl,?_⟩⟩⟩
 have C6:=s1.trans s2
 rw[Ja,Ja]
 have sub:∀r∈E,r∈ts:=fun r hr=>(mem r).mpr (eL r hr)
 have El:E.length<=ts.length:=bj ndE sub
 have Dv:∀{n:Nat},n=E.length->((∀r∈ts,r∈E)↔n=ts.length):=fun{n} en=>by
  refine⟨fun h =>?_,fun h r hr=>Classical.byContradiction fun hn =>?_⟩
  ·have:=bj nd h;omega
  ·have:=bj (l:=r::E) (m:=ts) (U4.mpr ⟨hn,ndE⟩) fun x hx=>by
    rcases Ug.mp hx with e|hx
    ·rw[e];exact hr
    ·exact sub x hx
   rw[J1] at this;omega
 by_cases hlen:E.length=ts.length
 rotate_left
 ·rw[decide_eq_false (fun z=>hlen (by injection z with z;omega))]
  refine eh (q _ _ C6 (.inl ⟨rfl,?_⟩))
  have:¬ ∀r∈ts,r∈E:=fun h=>hlen ((Dv rfl).mp h)
  refine Classical.byContradiction fun uK=>this fun r hr=>Classical.byContradiction fun hn=>uK ⟨r,(mem r).mp hr,fun he=>hn (he.mem ek r ((mem r).mp hr) rfl)⟩
 rw[decide_eq_true (by rw[hlen])]
 refine cM ?_
 have vU:∀r,ie B r↔r∈E:=fun r=>⟨fun h=>(Dv rfl).mpr hlen r ((mem r).mpr h),eL r⟩
 have hd2:=s2 _ _ hd1
 have Ih:=hB.same C6
 dsimp only[sO]
 refine dk (te:=lr _ _ _ _ _ _ _) (fun v H'=>bV fun(cd:Addr) (kvs:List (Key×V))=>v = .ref cd/\aw H2 H'/\H2 cd=none/\H' cd=some (.dK kvs)/\∀x,(aq kvs (.inr x)).isSome=true ↔ ∃q∈B,q.2=x) (fun Qn qn =>?_) ?_
 ·obtain⟨vs,hv,hdn⟩:=Ih
  have Kq:=lU hdn
  refine⟨_,rfl,l,rfl,⟨_,hv⟩,fun D hD =>?_⟩
  refine⟨fun i m H'=>∃kvs:List (Key×V),m=B.length-i/\i<=B.length/\aw H2 H'/\H' D=some (.dK kvs)/\kvs.length<=i/\∀x,(aq kvs (.inr x)).isSome=true ↔ ∃q∈B.take i,q.2=x,⟨_,[],rfl,Um _,cA hD _,aE,Je _,fun x=>⟨(fun h=>nomatch h),fun⟨q,hq,_⟩=>nomatch hq⟩⟩,?_⟩
  intro i m H3
  refine ae.go ?_
  rintro kvs rfl hi s3 hD3 kl km
  by_cases bP:i<B.length
  ·refine ae.el (md hdn bP) _ ?_
   rintro tp e1 e2
   refine .inr ⟨⟨_,_,s3.seq hv,e1⟩,?_⟩
   rintro y H4 ⟨rfl,hy⟩
   have e:=hy _ (s3.seq hv)
   rw[e1] at e;cases e
   refine⟨tp,_,rfl,s3.vK e2,rfl,_,_,rfl,_,_,rfl,rfl,?_⟩
   dsimp only[lz]
   rw[if_pos rfl]
   have ck:=aA bP
   generalize B[i]=z at ck
   refine⟨_,rfl,kvs,.inr z.2,hD3,rfl,small (by omega),B.length-(i+1),by omega,_,rfl,bP,fun b o e =>?_,aE,?_,fun x =>?_⟩
   ·rw[aj (ai e hD)];exact s3 b o e
   ·have:=cO kvs (.inr z.2) (V.bl true);omega
   ·rw[eX,ck]
    by_cases hx:x=z.2
    ·subst hx
     rw[if_pos rfl]
     exact⟨fun _=>⟨z,Ji _ (Jb.mpr rfl),rfl⟩,fun _=>rfl⟩
    ·rw[if_neg (fun e=>hx (by injection e)),km]
     exact⟨fun⟨q,hq,e⟩=>⟨q,Jx _ hq,e⟩,fun⟨q,hq,e⟩=>by
      rcases Jj.mp hq with hq|hq
      ·exact⟨q,hq,e⟩
      ·rw[Jb.mp hq] at e;exact absurd e.symm hx⟩
  ·have e:i=B.length:=by omega
   subst e
   rw[J0] at km
   exact .inl ⟨⟨_,s3.seq hv,by omega⟩,qn _ _ ⟨D,kvs,rfl,s3,hD,hD3,km⟩⟩
 intro v H3
 refine ae.go ?_
 rintro cd kvs rfl s3 hcd0 hcd3 km
 refine gn ?_
 refine fun dl H4 n4=>gn ?_
 have EH:=s3.trans n4.same
 have An:=EH _ _ hd2
 have Dx:=n4.same _ _ hcd3
 have y6:H dl=none:=by
  cases e:H dl with
  | none=>rfl
  | some o=>have:=n4.nn;rw[s3 _ _ (C6 _ _ e)] at this;cases this
 have FO:d≠dl:=ai (s3 _ _ hd2) n4.nn
 have IQ:cd≠dl:=ai hcd3 n4.nn
 have K8:=Ih.same EH
 dsimp only
 refine bW (t:=lA _ _ _) (fun σ H'=>xU fun(x4 x5 x6 x7 x8:Option V)=>∃cw:List (Key×V),σ=[some (.ref l),some (.ref d),some (.ref cd),some (.ref dl),x4,x5,x6,x7,x8]/\aw H H'/\H' dl=some (.dK cw)/\vJ B E cw) (fun Nx nx =>?_) ?_
 ·refine⟨_,rfl,d,_,rfl,An,fun ob =>?_⟩
  obtain⟨H5,c5⟩:∃H5,iO H4 d (.frz ob (.dK (E.map dA))) H5:=⟨_,⟨rfl⟩⟩
  rw[<-c5.eq]
  have s5:aw H H5:=fun b o e=>by rw[c5.ne (ai e u6)];exact EH _ _ (C6 b o e)
  have qL:cd≠d:=fun z=>by rw[z,hd2] at hcd0;cases hcd0
  have E6:H5 cd=some (.dK kvs):=by rw[c5.ne qL];exact Dx
  have vV:H5 dl=some (.dK []):=by rw[c5.ne (Ne.symm FO)];exact n4.at
  have AZ:(E.map dA).length=E.length:=Ja _
  refine dJ (N:=E.length) (fun i σ H'=>xU fun(x4 x5 x6 x7 x8:Option V)=>∃cw:List (Key×V),σ=[some (.ref l),some (.ref d),some (.ref cd),some (.ref dl),x4,x5,x6,x7,x8]/\(∀b o,b≠dl->H5 b=some o->H' b=some o)/\H' dl=some (.dK cw)/\vJ B (E.take i) cw) ⟨_,_,_,_,_,[],rfl,(fun b o _ e=>e),vV,⟨List.nodup_nil,(fun k h=>nomatch h),fun x h=>nomatch h⟩⟩ ?_ ?_
  ·intro i σ H6 hi
   refine ae.go ?_
   rintro x4 x5 x6 x7 x8 cw rfl k6 hdl6 dls
   refine⟨⟨k6 _ _ FO c5.at,by rw[AZ];exact hi⟩,?_⟩
   rintro v H7 ⟨rfl,kq,hkq,rfl⟩
   rw[Jn,Jf hi] at hkq
   cases hkq
   have ck:=aA hi
   have jU:=eL _ (Jw hi)
   have Ap:E[i]∉E.take i:=fun h=>by
    obtain⟨j,hj,e⟩:=Yc.mp h
    rw[J3] at hj
    rw[List.getElem_take] at e
    have:=(List.getElem_inj ndE).mp e
    omega
   have bP:=ordE (E.take i) E[i] (E.drop (i+1)) (by rw[List.getElem_cons_drop,Yj])
   generalize E[i]=x at ck jU Ap bP
   have AM:=jU.len gB
   have DK:=dls.le
   have Lg:(E.take i).length<=200:=by rw[J3];omega
   have s7:aw H H7:=fun b o e=>k6 b o (ai e y6) (s5 b o e)
   have Dy:=k6 _ _ IQ E6
   refine gn ?_
   show sW _ _ _ ([some (.ref l),some (.ref d),some (.ref cd),some (.ref dl),some (.str x),x5,x6,x7,x8]:L2.St) _
   refine dk (te:=Ez _ _ _) (fun v H'=>bV fun(fp:Addr) (ns:List Nat)=>v = .ref fp/\dz H7 fp (.lst (nI ns)) H'/\ns.length<=1/\∀a,a∈ns↔(∃q∈B,q.2=x)/\a=x.length) (fun Qn qn =>?_) ?_
   ·refine⟨_,rfl,_,rfl,cd,_,rfl,cN.k (k:=Sum.inr x) Dy,_,rfl,eK (fun c =>?_) (fun c =>?_)⟩
    ·exact⟨_,rfl,_,_,rfl,⟨sizeOk (by omega),rfl⟩,by show 1<=sizeLine;decide,fun fp H8 n8=>qn _ _ ⟨fp,[x.length],rfl,n8,Je 1,fun a=>⟨fun h=>⟨(km x).mp c,Jb.mp h⟩,fun h=>Jb.mpr h.2⟩⟩⟩
    ·exact⟨by show 0<=sizeLine;decide,fun fp H8 n8=>qn _ _ ⟨fp,[],rfl,n8,by decide,fun a=>⟨(fun h=>nomatch h),fun h=>absurd ((km x).mpr h.1) c⟩⟩⟩
   intro v H8
   refine ae.go ?_
   rintro fp ns0 rfl n8 nl0 nm0
   refine gn ?_
   have s8:=s7.trans n8.same
   have yi:H7 fp=none:=n8.nn
   have KC:fp≠dl:=fun z=>by rw[z,hdl6] at yi;cases yi
   show sW _ _ _ ([some (.ref l),some (.ref d),some (.ref cd),some (.ref dl),some (.str x),some (.ref fp),x6,x7,x8]:L2.St) _
   refine bW (t:=lA _ _ _) (fun σ H'=>dR fun(x6 x7 x8:Option V)=>∃ns:List Nat,σ=[some (.ref l),some (.ref d),some (.ref cd),some (.ref dl),some (.str x),some (.ref fp),x6,x7,x8]/\aw H7 H'/\H' fp=some (.lst (nI ns))/\ns.length<=20/\∀a,a∈ns↔(((∃q∈B,q.2=x)/\a=x.length)∨∃q∈B,∃r,∃n:Nat,Bh q x r/\aq cw (.inr r)=some (.int n)/\a=min x.length q.2.length+n)) (fun Nx3 nx3 =>?_) ?_
   ·refine⟨_,rfl,_,rfl,l,x,B,rfl,hB.same s8,gB,by omega,fun as p9 H9 s9 hp90 qi al ha hcv=>⟨p9,rfl,⟨_,aB.of qi⟩,?_⟩⟩
    have A5:∀{j:Nat} (hj:j<as.length),(as.map fun z=>V.ref z.1)[j]? = some (.ref as[j].1):=fun hj=>by rw[Jn,Jf hj];rfl
    have GJ:p9≠fp:=fun z=>by rw[z,n8.at] at hp90;cases hp90
    have Ay:=s9 _ _ n8.at
    have vh:=s9 _ _ (n8.same _ _ hdl6)
    refine dJ (N:=as.length) (fun j σ H'=>dR fun(x6 x7 x8:Option V)=>∃ns:List Nat,σ=[some (.ref l),some (.ref d),some (.ref cd),some (.ref dl),some (.str x),some (.ref fp),x6,x7,x8]/\(∀b o,b≠fp->H9 b=some o->H' b=some o)/\H' fp=some (.lst (nI ns))/\ns.length<=1+j/\∀a,a∈ns↔(((∃q∈B,q.2=x)/\a=x.length)∨∃z∈as.take j,∃n:Nat,aq cw (.inr z.2.2)=some (.int n)/\a=min x.length z.2.1.2.length+n)) ⟨_,_,_,ns0,rfl,(fun b o _ e=>e),Ay,by omega,fun a=>by rw[nm0];exact⟨.inl,fun h=>h.elim id fun⟨z,hz,_⟩=>nomatch hz⟩⟩ ?_ ?_
    ·intro j σ H10 hj
     refine ae.go ?_
     rintro x6 x7 x8 ns rfl vc oE nl nm
     have vY:=vc _ _ GJ qi
     refine⟨⟨_,_,aB.of vY,A5 hj⟩,?_⟩
     rintro v oj ⟨rfl,hv⟩
     have e:=hv _ (aB.of vY)
     rw[A5 hj] at e;cases e
     obtain⟨hz,hzB,hzb⟩:=ha _ (Jw hj)
     have u4:=aA hj
     have BZ:=(gB.cd _ hzB).le
     generalize as[j]=z at hz hzB hzb u4 BZ
     have Fg:qc oj z:=vc _ _ (fun e=>by have h:=hz;unfold qc at h;rw[e,Ay] at h;cases h) hz
     refine⟨_,_,rfl,iC.of Fg,rfl,_,_,rfl,_,_,rfl,_,_,rfl,rfl,?_⟩
     show nU _ _ _ _ ([some (.ref l),some (.ref d),some (.ref cd),some (.ref dl),some (.str x),some (.ref fp),some (.str z.2.1.1),some (.str z.2.1.2),some (.str z.2.2)]:L2.St) _
     have Bw:=vc _ _ (Ne.symm KC) vh
     have mB:=cN.k (k:=Sum.inr z.2.2) Bw
     obtain⟨o,_,ho⟩:=dls.at' _ (bP _ hzB _ hzb)
     refine⟨_,rfl,_,rfl,dl,_,rfl,mB,_,rfl,?_⟩
     rw[ho] at mB ⊢
     cases o with
     | none=>
      refine cM ⟨_,_,_,ns,rfl,vc,oE,by omega,fun a =>?_⟩
      rw[nm,u4]
      refine or_congr Iff.rfl ⟨fun⟨y,hy,n,h1,h2⟩=>⟨y,Jx _ hy,n,h1,h2⟩,fun⟨y,hy,n,h1,h2⟩=>?_⟩
      rcases Jj.mp hy with hy|hy
      ·exact⟨y,hy,n,h1,h2⟩
      ·rw[Jb.mp hy,ho] at h1;cases h1
     | some n=>
      refine eh ⟨_,rfl,.inl ⟨rfl,_,aB.of oE⟩,?_⟩
      refine⟨_,rfl,_,_,rfl,⟨sizeOk (by omega),rfl⟩,_,rfl,_,_,rfl,⟨sizeOk (by omega),rfl⟩,_,_,rfl,_,rfl,_,rfl,dl,_,rfl,mB,.inl ⟨_,_,rfl,rfl,fp,_,_,rfl,rfl,oE,small (by unfold nI;rw[Ja];omega),fun H12 c12=>⟨_,_,_,ns++[min x.length z.2.1.2.length+n],rfl,fun b o hb e =>?_,?_,by rw[Jg];show _+1<=_;omega,fun a =>?_⟩⟩⟩
      ·rw[c12.ne hb];exact vc b o hb e
      ·rw[c12.at]
       unfold nI
       rw[Jh]
       have e:(if ((z.2.1.2.length:Nat):Int)<(x.length:Nat) then ((z.2.1.2.length:Nat):Int) else ((x.length:Nat):Int))+(n:Int)=((min x.length z.2.1.2.length+n:Nat):Int):=by split<;>omega
       rw[e];rfl
      ·rw[Jj,Jb,nm,u4]
       refine⟨fun h =>?_,fun h =>?_⟩
       ·rcases h with (h|⟨y,hy,n',h1,h2⟩)|h
        ·exact .inl h
        ·exact .inr ⟨y,Jx _ hy,n',h1,h2⟩
        ·exact .inr ⟨z,Ji _ (Jb.mpr rfl),n,ho,h⟩
       ·rcases h with h|⟨y,hy,n',h1,h2⟩
        ·exact .inl (.inl h)
        ·rcases Jj.mp hy with hy|hy
         ·exact .inl (.inr ⟨y,hy,n',h1,h2⟩)
         ·rw[Jb.mp hy] at h1 h2
          rw[ho] at h1
          have h1:V.int (n:Nat)=V.int (n':Nat):=Option.some.inj h1
          injection h1 with h1
          exact .inr (by rw[h2];omega)
    ·intro σ H10
     refine ae.go ?_
     rintro x6 x7 x8 ns rfl vc oE nl nm
     rw[J0] at nm
     refine⟨⟨_,aB.of (vc _ _ GJ qi),by rw[Ja];exact Je _⟩,nx3 _ _ ⟨x6,x7,x8,ns,rfl,fun b o e=>vc b o (ai e yi) (s9 _ _ (n8.same _ _ e)),oE,by omega,fun a =>?_⟩⟩
     rw[nm]
     refine or_congr Iff.rfl ⟨fun⟨z,hz,n,h1,h2⟩=>?_,fun⟨q,hq,r,n,hb,h1,h2⟩=>?_⟩
     ·obtain⟨_,hzB,hzb⟩:=ha z hz
      exact⟨z.2.1,hzB,z.2.2,n,hzb,h1,h2⟩
     ·obtain⟨z,hz,e1,e2⟩:=hcv q hq r hb
      exact⟨z,hz,n,by rw[e2];exact h1,by rw[e1];exact h2⟩
   intro σ H9
   refine ae.go ?_
   rintro x6 x7 x8 ns rfl s9 Ay nl nm
   have vh:=s9 _ _ hdl6
   refine⟨_,rfl, !(nI ns).isEmpty,.inl ⟨_,aB.of Ay,rfl⟩,?_⟩
   have K5:(nI ns).isEmpty=ns.isEmpty:=by unfold nI;rw[List.isEmpty_map]
   rw[K5]
   by_cases oy:ns=[]
   ·have e:(!ns.isEmpty)=false:=by rw[oy];rfl
    rw[e]
    exact cM ⟨_,_,_,_,_,cw,rfl,fun b o hb e=>s9 _ _ (k6 b o hb e),vh,by rw[ck];exact dls.more Ap bP nm (.inl ⟨oy,rfl⟩)⟩
   ·have e:(!ns.isEmpty)=true:=by cases ns with|nil=>exact absurd rfl oy|cons _ _=>rfl
    rw[e]
    have ei:nI ns=(ns.map fun n:Nat=>(n:Int)).map V.int:=by unfold nI;rw[Ym];rfl
    rw[ei] at Ay
    refine eh ⟨_,rfl,fp,_,rfl,aB.of Ay,fun z=>oy (List.map_eq_nil_iff.mp z),fun M hM hmx =>?_⟩
    obtain⟨m,hm,rfl⟩:=Jv.mp hM
    refine⟨_,rfl,_,rfl,dl,_,rfl,gj.k (k:=Sum.inr x) vh (small (by omega)),?_⟩
    rw[cz _ (dls.no Ap)]
    exact⟨_,_,_,_,_,_,rfl,fun b o hb e=>by rw[aj hb];exact s9 _ _ (k6 b o hb e),aE,by rw[ck];exact dls.more Ap bP nm (.inr ⟨m,hm,fun a ha=>by have:=hmx _ (Jz ha);omega,rfl⟩)⟩
  ·intro σ H6
   refine ae.go ?_
   rintro x4 x5 x6 x7 x8 cw rfl k6 hdl6 dls
   rw[J0] at dls
   exact⟨⟨k6 _ _ FO c5.at,by rw[AZ];exact Je _⟩,nx _ _ ⟨x4,x5,x6,x7,x8,cw,rfl,fun b o e=>k6 b o (ai e y6) (s5 b o e),hdl6,dls⟩⟩
 intro σ H5
 refine ae.go ?_
 rintro x4 x5 x6 x7 x8 cw rfl s5 vV dls
 have DK:=dls.le
 have Li:E.length<=200:=by omega
 have vals:∀kv∈cw,∃x∈E,∃n:Nat,kv=(.inr x,.int n)/\Dl (jx B) (sg x) (some n):=fun kv hkv=>by
  obtain⟨x,hx,e⟩:=dls.ks _ (Jz hkv)
  obtain⟨o,hD,ho⟩:=dls.at' x hx
  have:=gJ dls.nd (show(kv.1,kv.2)∈cw from hkv)
  rw[e,ho] at this
  obtain⟨n,rfl,e2⟩:=pz.mp this
  exact⟨x,hx,n,by rw[<-e,<-e2],hD⟩
 refine⟨dl,⟨_,vV⟩,?_⟩
 refine⟨_,rfl,dl,cw,rfl,vV,fun ob =>?_⟩
 obtain⟨H6,c6⟩:∃H6,iO H5 dl (.frz ob (.dK cw)) H6:=⟨_,⟨rfl⟩⟩
 rw[<-c6.eq]
 refine bA (N:=cw.length) (fun i ys H'=>H'=H6/\ys=(cw.take i).map (·.2)) ⟨rfl,rfl⟩ ?_ ?_
 ·rintro i ys H7 Ny hi ⟨rfl,rfl⟩ ny
  refine⟨⟨c6.at,hi⟩,small (by rw[Ja,J3];omega),?_⟩
  rintro v H8 ⟨rfl,kv,hkv,rfl⟩
  rw[Jf hi] at hkv
  cases hkv
  obtain⟨x,hx,n,e,_⟩:=vals _ (Jw hi)
  have Iq:=gJ dls.nd (show((Sum.inr x:Key),V.int (n:Nat))∈cw by rw[<-e];exact Jw hi)
  have ck:=aA hi
  generalize cw[i]=kv at e ck
  subst e
  refine gn ?_
  dsimp only[lz]
  rw[if_pos rfl]
  refine⟨_,rfl,_,rfl,dl,_,rfl,.inl ⟨cw,.inr x,.inr ⟨ob,c6.at⟩,rfl,Iq.symm⟩,ny _ _ ⟨rfl,?_⟩⟩
  rw[ck,Jh];rfl
 rintro ys H7 ⟨rfl,rfl⟩
 rw[J0]
 refine⟨⟨c6.at,Je _⟩,fun p hp =>?_⟩
 obtain⟨ns,oy,hnm⟩:∃ns:List Int,cw.map (·.2)=ns.map V.int/\∀a,a∈ns ↔ ∃m:Nat,a=m/\∃x∈E,Dl (jx B) (sg x) (some m):=by
  have h1:∀(l:List (Key×V)),(∀kv∈l,∃n:Nat,kv.2 = .int n)->∃ns:List Nat,l.map (·.2)=nI ns:=fun l=>by
   induction l with
   | nil=>exact fun _=>⟨[],rfl⟩
   | cons a l ih=>
    intro h
    obtain⟨ns,e⟩:=ih fun x hx=>h x (Jo _ hx)
    obtain⟨n,e'⟩:=h a Jp
    exact⟨n::ns,by rw[Ui,e,e'];rfl⟩
  obtain⟨ns,e⟩:=h1 cw fun kv hkv=>by obtain⟨x,_,n,e,_⟩:=vals kv hkv;exact⟨n,by rw[e]⟩
  have ei:nI ns=(ns.map fun n:Nat=>(n:Int)).map V.int:=by unfold nI;rw[Ym];rfl
  refine⟨_,e.trans ei,fun a =>?_⟩
  rw[Jv]
  refine⟨fun⟨m,hm,ea⟩=>⟨m,ea.symm,?_⟩,fun⟨m,ea,x,hx,hD⟩=>⟨m,?_,ea.symm⟩⟩
  ·have:V.int (m:Nat)∈cw.map (·.2):=by rw[e];exact Jz hm
   obtain⟨kv,hkv,e2⟩:=Jv.mp this
   obtain⟨x,hx,n,e3,hD⟩:=vals kv hkv
   rw[e3] at e2
   injection e2 with e2
   exact⟨x,hx,by rw[show m=n by omega];exact hD⟩
  ·obtain⟨o,Ao,ho⟩:=dls.at' x hx
   have eo:o=some m:=Ao.one hD
   rw[eo] at ho
   have gU:=iT ho
   obtain⟨kv,hkv,ek'⟩:=Jv.mp gU
   obtain⟨x',_,n,e3,_⟩:=vals kv hkv
   have Ie:=gJ dls.nd (show(kv.1,kv.2)∈cw from hkv)
   rw[ek',ho] at Ie
   have:V.int (m:Nat)∈cw.map (·.2):=Jv.mpr ⟨kv,hkv,(Option.some.inj Ie).symm⟩
   rw[e] at this
   obtain⟨n',hn',e4⟩:=Jv.mp this
   injection e4 with e4
   rw[show m=n' by omega];exact hn'
 rw[oy]
 obtain⟨H8,n8⟩:∃H8,dz H7 p (.lst (ns.map V.int)) H8:=⟨_,hp,rfl⟩
 rw[<-n8.eq]
 refine⟨ob,cw,n8.same _ _ c6.at,?_⟩
 obtain⟨H9,c9⟩:∃H9,iO H8 dl (.dK cw) H9:=⟨_,⟨rfl⟩⟩
 rw[<-c9.eq]
 have KN:p≠dl:=fun z=>by rw[z,c6.at] at hp;cases hp
 have qi:H9 p=some (.lst (ns.map V.int)):=by rw[c9.ne KN];exact n8.at
 have s9:aw H H9:=fun b o e=>by
  have hb:=ai e y6
  rw[c9.ne hb]
  refine n8.same _ _ ?_
  rw[c6.ne hb];exact s5 b o e
 refine⟨p,ns,0,rfl,rfl,aB.of qi,fun M hM=>q _ _ s9 (.inr ?_)⟩
 have AO:∀r,ie B r->∃o,Dl (jx B) (sg r) o:=fun r hr=>by
  obtain⟨o,hD,_⟩:=dls.at' r ((vU r).mp hr)
  exact⟨o,hD⟩
 rcases hM with ⟨hn,rfl⟩|⟨hM,hmx⟩
 ·refine⟨0,rfl,AO,.inl rfl,fun a ⟨r,hr,hD⟩=>?_⟩
  have:=(hnm a).mpr ⟨a,rfl,r,(vU r).mp hr,hD⟩
  rw[hn] at this;cases this
 ·obtain⟨m,rfl,x,hx,hD⟩:=(hnm M).mp hM
  refine⟨m,rfl,AO,.inr ⟨x,(vU x).mpr hx,hD⟩,fun a ⟨r,hr,Ao⟩=>?_⟩
  have:=hmx _ ((hnm a).mpr ⟨a,rfl,r,(vU r).mp hr,Ao⟩)
  omega
end
noncomputable def qj (K:Jd):Sp:=fun vs H Q _=>∃(a:Addr) (ns:List Int),vs=[.ref a]/\aB K H a (ns.map V.int)/\ns.length<=63/\∀H',Q (.bl true) H'
theorem qN {B:List (Str×Str)}(g:fT B):jQ (B.map (·.2)):=⟨by rw[Ja];exact g.le,fun c hc=>by
 obtain⟨q,hq,rfl⟩:=Jv.mp hc
 exact g.cd q hq⟩
theorem x9 {B:List (Str×Str)}(g:fT B):∀c∈jx B,c≠[]:=fun c hc e=>by
 obtain⟨q,hq,rfl⟩:=cW.mp hc
 have:=(g.cd q hq).pos
 have e2:q.2.length=(sg q.2).length:=str_len _
 rw[e] at e2;simp at e2;omega
theorem kL {B:List (Str×Str)}{k:Nat}{d:Sg}(h1:1<=k)(h2:k<d.length)(hd:d∈jx B):ie B (toS (d.drop k)):=by
 obtain⟨q,hq,rfl⟩:=cW.mp hd
 exact⟨q,hq,k,h1,h2,gb _⟩
theorem yG {B:List (Str×Str)}(g:fT B){u v:V}(hu:GZ B u)(hv:B1 (B.map (·.2)) v):u=v/\(u = .non∨∃m:Nat,u = .int m):=by
 have sC:=x9 g
 have zW:(∀r,ie B r->∃o,Dl (jx B) (sg r) o)->∀k d c,1<=k->k<d.length->d∈jx B->c∈jx B->∃w,Wv (jx B) (d.drop k,c) w:=fun h k d c h1 h2 hd hc=>by
  obtain⟨o,hD⟩:=h _ (kL h1 h2 hd)
  rw[gb] at hD
  have iB:d.drop k≠[]:=fun z=>by have:=congrArg Ue z;rw[Uw] at this;simp at this;omega
  obtain⟨⟨gf,hw,_⟩,_⟩:=hD.worth sC iB
  exact⟨_,hw c hc⟩
 rcases hu with ⟨rfl,r,hr,hn⟩|⟨m,rfl,cU,hm⟩
 ·rcases hv with ⟨rfl,_⟩|⟨m',rfl,hall',_⟩
  ·exact⟨rfl,.inl rfl⟩
  ·refine absurd (En.tE fun c hc =>?_) hn
   obtain⟨q,hq,a,a1,a2,e⟩:=hr
   rw[e]
   exact hall' _ (.start a (sg q.2) c a1 a2 (cW.mpr ⟨q,hq,rfl⟩) hc)
 ·rcases hv with ⟨rfl,p,hp,uK⟩|⟨m',rfl,hall',nR⟩
  ·obtain⟨w,hw⟩:=Rc.worth (zW cU) hp
   exact absurd hw (uK w)
  ·have e:m=m':=by
    refine Y2 ?_ ?_
    ·rcases hm.1 with h|⟨r,hr,hD⟩
     ·omega
     ·have iI:=hr
      obtain⟨q,hq,a,a1,a2,e⟩:=hr
      have iB:sg r≠[]:=fun z=>by rw[z] at e;have:=congrArg Ue e;rw[Uw,Ys] at this;omega
      obtain⟨⟨gf,hw,ht⟩,_⟩:=hD.worth sC iB
      rcases ht with ⟨z,_⟩|⟨m2,z,⟨c,hc,ec⟩,_⟩
      ·cases z
      ·cases z
       refine nR.2 m ⟨a,sg q.2,c,a1,a2,cW.mpr ⟨q,hq,rfl⟩,hc,?_⟩
       have:=hw c hc
       rw[ec,e] at this
       exact this
    ·rcases nR.1 with h|⟨k,d,c,h1,h2,hd,hc,hw'⟩
     ·omega
     ·have jU:=kL h1 h2 hd
      obtain⟨o,hD⟩:=cU _ jU
      have Ao:=hD
      rw[gb] at Ao
      have iB:d.drop k≠[]:=fun z=>by have:=congrArg Ue z;rw[Uw] at this;simp at this;omega
      obtain⟨⟨gf,hw,ht⟩,_⟩:=Ao.worth sC iB
      have ec:=(hw c hc).one hw'
      rcases ht with ⟨_,z⟩|⟨m2,rfl,_,hmx⟩
      ·exact absurd ⟨c,hc,ec⟩ (z m')
      ·exact Jq (hmx m' ⟨c,hc,ec⟩) (hm.2 m2 ⟨_,jU,hD⟩)
   exact⟨by rw[e],.inr ⟨m,rfl⟩⟩
section
variable {P:Program}{w:World}{K:Jd}{mg:Str->Option Value}{base:Heap}{f:Addr}{fd:FuncData}
theorem gw:bb ["_law_script", "_law_state", "_law_turn", "_law_book_here", "_law_due_here", "_law_again", "_law_found"] ["_law_script"] (aF (top gH)):=⟨rfl,rfl,rfl,by decide +kernel,rfl,by decide +kernel,by decide +kernel⟩
theorem t9 (F:d5 K "law" "law" (top gH) f fd)(T:Nm mg)(nu:Fn P w K mg base 1 "_law_begin" ["_law_script"] (iJ K))(oD:Fn P w K mg base 3 "_law_book" ["_law_state"] (qe K))(qF:Fn P w K mg base 4 "_law_due" ["_law_codes"] (vj K))(gZ:Fn P w K mg base 6 "greatest_delay" ["book"] (wL K)):cf P w K mg base ir 7 f fd ["_law_script"] (qj K):=by
 refine F.ok gw (fun vs H Q E h =>?_) (fun dS A outer s H vs Q E hr h =>?_)
 ·obtain⟨a,ns,rfl,_⟩:=h
  rfl
 obtain⟨a,ns,rfl,hS,hlen,q⟩:=h
 have hW:=hr.units
 have small:∀{n:Nat},n<=30000->n<sizeLine:=fun h=>Uc h (by decide)
 refine⟨_,(ah (aG (i:=1) gw.nd rfl (Or.inl rfl) (bp (nu.mono (by decide)) hr rfl (aa (pv 0) ag)))
  (ah (cT PassesOwn.never rfl (dg rfl T.n_range (aa ar ag)) (ak (i:=2) gw.nd rfl (Or.inl rfl)) (ah (aG (i:=3) gw.nd rfl (Or.inl rfl) (bp (oD.mono (by decide)) hr rfl (aa (pv 1) ag)))
  (ah (aG (i:=4) gw.nd rfl (Or.inl rfl) (bp (qF.mono (by decide)) hr rfl (aa (bR rfl (aO (Nc:=["_law_name", "_law_code"]) (Fc:=[]) (js:=[])) (iz K (pv 3)) (il (br (aD (i:=0) (n:=2) (by decide)) (br (aD (i:=1) (n:=2) (by decide)) fK aU bT) aU (cu aU bT))) (fun _ _ _ _ _=>(tupK K 2 rfl (aJ (ak (i:=0) (fJ ["_law_name", "_law_code"]) rfl (Or.inl rfl)) (aJ (ak (i:=1) (fJ ["_law_name", "_law_code"]) rfl (Or.inl rfl)) cL)))) (fun _ _ _ _ _=>bJ) (fun _ _ _ _ _=>(pv 1))) ag)))
  (ao (cT PassesOwn.never rfl (dg rfl T.n_range (aa ar ag)) (ak (i:=5) gw.nd rfl (Or.inl rfl)) (ah (aG (i:=6) gw.nd rfl (Or.inl rfl) (bp (gZ.mono (by decide)) hr rfl (aa (pv 3) ag)))
  (ao (cR (PW.pt (xQ (aI (rS K hW) (iZ Bj (pv 6) d9 (aQ _)) (iZ Bj (pv 4) d9 (aQ _)) (aQ _)) (xQ (hZ (az (EZ K) rfl T.n_isinstance (by rfl) (aa (pv 6) (aa (w4 rfl T.n_bool (by rfl) (v := .ty "bool") rfl) ag)))) (yl (aI (rS K hW) (pv 6) (pv 4) (aQ _)))))) (ao (aX kb)) bu))))))))
  (ao (aX kb)))),?_⟩
 refine⟨_,rfl,a,ns,rfl,hS,hlen,fun b c H1 bx hb hc sm1=>gn ?_⟩
 dsimp only
 clear sm1 hS hlen
 refine bW (t:=lA _ _ _) (fun σ H'=>True) (fun Nx nx =>?_) ?_
 ·refine⟨_,rfl,by decide,by decide,?_⟩
  refine dJ (N:=3) (fun i σ H'=>BU fun(t':Int) (x2 x3 x4 x5 x6:Option V) =>σ=[some (.ref a),some (.ref b),x2,x3,x4,x5,x6]/\Bx H' b c t'/\0<=t'/\t'<=400*i) ⟨0,_,_,_,_,_,rfl,bx,Yb _,by decide⟩ ?_ ?_
  ·intro i σ H2 hi
   refine ae.go ?_
   rintro t2 x2 x3 x4 x5 x6 rfl zA GX KL
   refine⟨hi,?_⟩
   rintro x H2' ⟨rfl,rfl⟩
   refine gn ?_
   dsimp only
   refine⟨_,rfl,b,c,t2,rfl,zA,GX,by omega,fun bk v H3 t3 gk hA cv=>gn ?_⟩
   obtain⟨l,vs,rfl,hl,hd⟩:=hA
   have fP:aB K H3 l vs:=mG.seq (aB.of hl)
   have Hk:=hd.same (mG (H:=H3) (b:=b) (c:=c))
   have JS:=cv.bx
   have Lk:=cv.le
   have Ls:=cv.ub
   have Kq:=lU hd
   have Lf:=gk.le
   clear hl hd
   dsimp only
   refine⟨_,rfl,l,rfl,⟨_,fP⟩,?_⟩
   refine bA (N:=bk.length) (fun k ys H'=>H'=H3/\ys=((bk.take k).map (·.2)).map V.str) ⟨rfl,rfl⟩ ?_ ?_
   ·rintro k ys H5 Ny hk ⟨rfl,rfl⟩ ny
    obtain⟨tp,e1,e2⟩:=md Hk hk
    refine⟨⟨_,_,fP,e1⟩,small (by rw[Ja,Ja,J3];omega),?_⟩
    rintro x H6 ⟨rfl,hy⟩
    have e:=hy _ fP
    rw[e1] at e;cases e
    refine⟨tp,_,rfl,e2,rfl,_,_,rfl,_,_,rfl,rfl,?_⟩
    dsimp only[lz]
    rw[if_pos rfl]
    refine⟨_,rfl,ny _ _ ⟨rfl,?_⟩⟩
    rw[aA hk]
    show _=List.map V.str (List.map (·.2) (bk.take k++[bk[k]]))
    rw[Jh,Jh];rfl
   rintro ys H5 ⟨rfl,rfl⟩
   rw[J0]
   refine⟨⟨_,fP,by omega⟩,fun cp hcp =>?_⟩
   obtain⟨H6,n6⟩:∃H6,dz H5 cp (.lst ((bk.map (·.2)).map V.str)) H6:=⟨_,hcp,rfl⟩
   rw[<-n6.eq]
   refine⟨cp,bk.map (·.2),rfl,n6.at,qN gk,fun dv H7 s7 hdv=>gn ?_⟩
   have zo:=n6.same.trans s7
   have JX:w5 K H7 bk l:=⟨vs,zo.seq fP,Hk.same zo⟩
   have Km:=JS.same zo
   dsimp only
   refine⟨_,rfl,by decide,by decide,?_⟩
   refine dJ (N:=2) (fun j σ H'=>bV fun(x5 x6:Option V) =>σ=[some (.ref a),some (.ref b),some (.int (0+(i:Int))),some (.ref l),some dv,x5,x6]/\aw H7 H') ⟨_,_,rfl,aw.refl _⟩ ?_ ?_
   ·intro j σ H8 hj
    refine ae.go ?_
    rintro x5 x6 rfl s8
    refine⟨hj,?_⟩
    rintro x H8' ⟨rfl,rfl⟩
    refine gn ?_
    dsimp only
    refine⟨_,rfl,l,bk,rfl,JX.same s8,gk,fun u H9 s9 hgu=>gn ?_⟩
    obtain⟨rfl,hu⟩:=yG gk hgu hdv
    dsimp only
    refine⟨_,rfl,.inl ⟨rfl,_,rfl,.inl ⟨rfl,.inl ⟨rfl,_,rfl,?_⟩⟩⟩⟩
    rw[decide_eq_true (rfl:V.bl (decide (u=V.non))=V.bl (decide (u=V.non)))]
    refine cM ?_
    have K3:∃dd,Den K H9 dd u/\PySem.W.kitOne K (.type (Dj dd)) (.type "bool")=some false:=by
     rcases hu with rfl|⟨m,rfl⟩
     ·exact⟨.none,by unfold Den;rfl,rfl⟩
     ·exact⟨.int m,by unfold Den;rfl,rfl⟩
    obtain⟨dd,C9,hkit⟩:=K3
    refine⟨_,rfl,.inl ⟨_, "bool",dd,false,rfl,C9,hkit,_,rfl,cM ?_⟩⟩
    have JW:xW u u=true:=by rcases hu with rfl|⟨m,rfl⟩<;>rfl
    refine⟨_,rfl,_,rfl,.inl ⟨JW,_,rfl,?_⟩⟩
    rw[decide_eq_true (rfl:u=u)]
    exact cM ⟨_,_,rfl,s8.trans s9⟩
   ·intro σ H8
    refine ae.go ?_
    rintro x5 x6 rfl s8
    exact⟨Je _,t3,_,_,_,_,_,rfl,Km.same s8,by omega,by omega⟩
  ·intro σ H2 hz_
   exact⟨Je _,nx _ _ trivial⟩
 intro σ H2 _
 exact q H2
end
theorem lenZ {α:Type}{P:List α->Prop}(h:P []):∀us:List α,us.length=0->P us:=fun us e=>Ux e▸h
theorem cX {α:Type}{P:List α->Prop}{n:Nat}(h:∀a (us:List α),us.length=n->P (a::us))(us:List α)(e:us.length=n+1):P us:=by
 cases us with|nil=>cases e|cons a us=>exact h a us (Nat.succ.inj e)
theorem all_mk {l:PySem.W.OpenLaw}{w:World}{K:Jd}{h:Heap}{mg:Str->Option Value}{fa f1 f2 f3 f4 f5 f6 f7 f8 f9 Fw Fo EF DQ Gv FY DZ Fh Fm:Addr}(X:K.In h)(G:h.Ns mainGlobals mg)(JG:mg "law" = some (.ref fa))
  {Ky:FuncData}
  {JK:FuncData}
  {JQ:FuncData}
  {Kd:FuncData}
  {JY:FuncData}
  {JI:FuncData}
  {JA:FuncData}
  {Ir:FuncData}
  {Ip:FuncData}
  {DB:FuncData}
  {Gs:FuncData}
  {E7:FuncData}
  {DP:FuncData}
  {DD:FuncData}
  {EJ:FuncData}
  {Gw:FuncData}
  {Gg:FuncData}
  {FA BH:Option Addr} {DC:Array (Option Value)} {E3 AW BD Bl yf Cj:Value}
  (a1:J7 K mainGlobals "rest_of" = some (some (.ref f1))) (F1:d5 K "rest_of" "rest_of" (top h8) f1 Ky)
  (a2:J7 K mainGlobals "length_first" = some (some (.ref f2))) (F2:d5 K "length_first" "length_first" (top dr) f2 JK)
  (a3:J7 K mainGlobals "code_ends" = some (some (.ref f3))) (F3:d5 K "code_ends" "code_ends" (top eZ) f3 JQ)
  (a4:J7 K mainGlobals "lags_behind" = some (some (.ref f4))) (F4:d5 K "lags_behind" "lags_behind" (top dQ) f4 Kd)
  (a5:J7 K mainGlobals "lags_of" = some (some (.ref f5))) (F5:d5 K "lags_of" "lags_of" (top g4) f5 JY)
  (a6:J7 K mainGlobals "ending_lags" = some (some (.ref f6))) (F6:d5 K "ending_lags" "ending_lags" (top dF) f6 JI)
  (a7:J7 K mainGlobals "greatest_delay" = some (some (.ref f7))) (F7:d5 K "greatest_delay" "greatest_delay" (top cI) f7 JA)
  (a8:J7 K mainGlobals "_law_begin" = some (some (.ref f8))) (F8:d5 K "_law_begin" "_law_begin" (top fj) f8 Ir)
  (a9:J7 K mainGlobals "_law_take" = some (some (.ref f9))) (F9:d5 K "_law_take" "_law_take" (top gu) f9 Ip)
  (Ff:J7 K mainGlobals "_law_names" = some (some (.ref Fw))) (B4:d5 K "_law_names" "_law_names" (top fg) Fw DB)
  (DU:J7 K mainGlobals "_law_free" = some (some (.ref Fo))) (B9:d5 K "_law_free" "_law_free" (top fZ) Fo Gs)
  (DW:J7 K mainGlobals "_law_sizes" = some (some (.ref EF))) (Bv:d5 K "_law_sizes" "_law_sizes" (top eY) EF E7)
  (FI:J7 K mainGlobals "_law_book" = some (some (.ref DQ))) (Cy:d5 K "_law_book" "_law_book" (top gh) DQ DP)
  (DG:J7 K mainGlobals "_law_steps" = some (some (.ref Gv))) (AJ:d5 K "_law_steps" "_law_steps" (top ff) Gv DD)
  (Eb:J7 K mainGlobals "_law_pairs" = some (some (.ref FY))) (CO:d5 K "_law_pairs" "_law_pairs" (top fv) FY EJ)
  (DI:J7 K mainGlobals "_law_worths" = some (some (.ref DZ))) (Bt:d5 K "_law_worths" "_law_worths" (top eC) DZ Gw)
  (E4:J7 K mainGlobals "_law_due" = some (some (.ref Fh))) (AA:d5 K "_law_due" "_law_due" (top ij) Fh Gg)
  (Eu:J7 K mainGlobals "law" = some (some (.ref Fm))) (EN:K.lookup Fm=some ⟨E3,FA,.func (Wi "law" "law" (fG (top gH)) (eI (top gH)) (aF (top gH)) .none AW BD Bl BH yf Cj),DC⟩) (DH:PySem.W.codeIn K yf "law" = true) (Es:PySem.W.keepIn K (.ref Fm)=true)
  (y0:J7 K mainGlobals "sorted" = some none)
  (y1:J7 K mainGlobals "set" = some none)
  (z0:J7 K mainGlobals "len" = some none) (z1:J7 K mainGlobals "range" = some none) (z2:J7 K mainGlobals "max" = some none) (z3:J7 K mainGlobals "min" = some none) (z4:J7 K mainGlobals "sum" = some none) (z5:J7 K mainGlobals "all" = some none) (z6:J7 K mainGlobals "any" = some none) (z7:J7 K mainGlobals "list" = some none) (z8:J7 K mainGlobals "tuple" = some none) (z9:J7 K mainGlobals "int" = some none) (FH:J7 K mainGlobals "str" = some none) (Fy:J7 K mainGlobals "bool" = some none) (FC:J7 K mainGlobals "zip" = some none) (GC:J7 K mainGlobals "enumerate" = some none) (D3:J7 K mainGlobals "isinstance" = some none) (Gu:J7 K mainGlobals "divmod" = some none) :
  ∃fd:FuncData,(∀(s:Shared) (v:Value),BindsTo s fd ⟨[v],[]⟩ [("_law_script",v)])/\∀base:Heap,K.In base->base.Ns mainGlobals mg->cf l.prog w K mg base ir 7 fa fd ["_law_script"] (qj K):=by
 have e:=JG.symm.trans (Uv X G Eu)
 cases e
 have T:Nm mg:=⟨Ud X G z0,Ud X G z1,Ud X G z2,Ud X G z3,Ud X G z4,Ud X G z5,Ud X G z6,Ud X G z7,Ud X G z8,Ud X G z9,Ud X G FH,Ud X G Fy,Ud X G FC,Ud X G GC,Ud X G D3,Ud X G Gu⟩
 have dY:=Ud X G y0
 have ug:=Ud X G y1
 have k1:=F1.kp
 have b1:=F1.binds (ps:=["one", "other"]) fun _ _ _ _ _ _=>cX fun _=>cX fun _=>lenZ rfl
 have k2:=F2.kp
 have b2:=F2.binds (ps:=["text"]) fun _ _ _ _ _ _=>cX fun _=>lenZ rfl
 have k3:=F3.kp
 have b3:=F3.binds (ps:=["book"]) fun _ _ _ _ _ _=>cX fun _=>lenZ rfl
 have k4:=F4.kp
 have b4:=F4.binds (ps:=["book", "lag"]) fun _ _ _ _ _ _=>cX fun _=>cX fun _=>lenZ rfl
 have k5:=F5.kp
 have b5:=F5.binds (ps:=["book"]) fun _ _ _ _ _ _=>cX fun _=>lenZ rfl
 have k6:=F6.kp
 have b6:=F6.binds (ps:=["book"]) fun _ _ _ _ _ _=>cX fun _=>lenZ rfl
 have k7:=F7.kp
 have b7:=F7.binds (ps:=["book"]) fun _ _ _ _ _ _=>cX fun _=>lenZ rfl
 have k8:=F8.kp
 have b8:=F8.binds (ps:=["_law_script"]) fun _ _ _ _ _ _=>cX fun _=>lenZ rfl
 have k9:=F9.kp
 have b9:=F9.binds (ps:=["_law_state", "_law_many"]) fun _ _ _ _ _ _=>cX fun _=>cX fun _=>lenZ rfl
 have vc:=B4.kp
 have Ik:=B4.binds (ps:=["_law_state", "_law_many"]) fun _ _ _ _ _ _=>cX fun _=>cX fun _=>lenZ rfl
 have IC:=B9.kp
 have Ki:=B9.binds (ps:=["_law_state", "_law_many", "_law_most"]) fun _ _ _ _ _ _=>cX fun _=>cX fun _=>cX fun _=>lenZ rfl
 have Ks:=Bv.kp
 have JO:=Bv.binds (ps:=["_law_state"]) fun _ _ _ _ _ _=>cX fun _=>lenZ rfl
 have JD:=Cy.kp
 have Kr:=Cy.binds (ps:=["_law_state"]) fun _ _ _ _ _ _=>cX fun _=>lenZ rfl
 have Kl:=AJ.kp
 have Iv:=AJ.binds (ps:=["_law_codes", "_law_pair"]) fun _ _ _ _ _ _=>cX fun _=>cX fun _=>lenZ rfl
 have Im:=CO.kp
 have Iy:=CO.binds (ps:=["_law_codes"]) fun _ _ _ _ _ _=>cX fun _=>lenZ rfl
 have K4:=Bt.kp
 have Il:=Bt.binds (ps:=["_law_codes"]) fun _ _ _ _ _ _=>cX fun _=>lenZ rfl
 have IE:=AA.kp
 have IB:=AA.binds (ps:=["_law_codes"]) fun _ _ _ _ _ _=>cX fun _=>lenZ rfl
 have Kx:=bS (st:=top gH) EN DH Es
 refine⟨Wi "law" "law" (fG (top gH)) (eI (top gH)) (aF (top gH)) .none AW BD Bl BH yf Cj,fun s v =>.of_eq rfl,fun base hB hG =>?_⟩
 have CQ:Fn l.prog w K mg base 1 "rest_of" ["one", "other"] (lh):=⟨f1,_,vF F1 T,b1,k1,Uv X G a1⟩
 have IJ:Fn l.prog w K mg base 1 "length_first" ["text"] (xg):=⟨f2,_,CK F2 T,b2,k2,Uv X G a2⟩
 have Kw:Fn l.prog w K mg base 1 "code_ends" ["book"] (vA K):=⟨f3,_,BB F3 T,b3,k3,Uv X G a3⟩
 have Hs:Fn l.prog w K mg base 2 "lags_behind" ["book", "lag"] (ue K):=⟨f4,_,Bg F4 T CQ,b4,k4,Uv X G a4⟩
 have HI:Fn l.prog w K mg base 4 "lags_of" ["book"] (uy K):=⟨f5,_,CJ F5 T dY Kw IJ,b5,k5,Uv X G a5⟩
 have JN:Fn l.prog w K mg base 5 "ending_lags" ["book"] (vB K):=⟨f6,_,A6 F6 T HI Hs,b6,k6,Uv X G a6⟩
 have KS:Fn l.prog w K mg base 6 "greatest_delay" ["book"] (wL K):=⟨f7,_,BF F7 T JN HI Hs,b7,k7,Uv X G a7⟩
 have yr:Fn l.prog w K mg base 1 "_law_begin" ["_law_script"] (iJ K):=⟨f8,_,sG F8 T,b8,k8,Uv X G a8⟩
 have Bq:Fn l.prog w K mg base 1 "_law_take" ["_law_state", "_law_many"] (kY):=⟨f9,_,wm F9 T,b9,k9,Uv X G a9⟩
 have Dd:Fn l.prog w K mg base 1 "_law_take" ["_law_state", "_law_many"] (rB):=Fn.imp Bq (fun _ _ _ _ h=>vX h)
 have Ko:Fn l.prog w K mg base 2 "_law_names" ["_law_state", "_law_many"] (wA):=⟨Fw,_,vp B4 T Dd,Ik,vc,Uv X G Ff⟩
 have A9:Fn l.prog w K mg base 2 "_law_free" ["_law_state", "_law_many", "_law_most"] (wj):=⟨Fo,_,wB B9 T Dd,Ki,IC,Uv X G DU⟩
 have Iw:Fn l.prog w K mg base 2 "_law_sizes" ["_law_state"] (pY):=⟨EF,_,yY Bv T Dd,JO,Ks,Uv X G DW⟩
 have KZ:Fn l.prog w K mg base 3 "_law_book" ["_law_state"] (qe K):=⟨DQ,_,wK Cy T dY ug Dd Iw A9 Ko,Kr,JD,Uv X G FI⟩
 have ED:Fn l.prog w K mg base 1 "_law_steps" ["_law_codes", "_law_pair"] (qa K):=⟨Gv,_,zL AJ T,Iv,Kl,Uv X G DG⟩
 have Ek:Fn l.prog w K mg base 2 "_law_pairs" ["_law_codes"] (qg K):=⟨FY,_,zG CO T ED,Iy,Im,Uv X G Eb⟩
 have Fl:Fn l.prog w K mg base 3 "_law_worths" ["_law_codes"] (qh K):=⟨DZ,_,zg Bt T Ek,Il,K4,Uv X G DI⟩
 have KP:Fn l.prog w K mg base 4 "_law_due" ["_law_codes"] (vj K):=⟨Fh,_,Bf AA T Fl,IB,IE,Uv X G E4⟩
 exact t9 Kx T yr KZ KP KS
theorem walk {l:PySem.W.OpenLaw}{q:Program}{loose:List Str}{XP:(Str->Option Value)->Heap->Prop}{YP:World->Heap->Prop}{d:DefRec}{K:Params->Jd}(hn:l.most=some 63)(Cw:d.params.defaults=[])
  (hY:∀(w:World) (h:Heap),YP w h->(K w.params).In h)
  (F:∀(w:World) (mg:Str->Option Value) (fa:Addr) (h:Heap),(K w.params).In h->h.Ns mainGlobals mg->mg d.name=some (.ref fa) ->
   ∃fd:FuncData,(∀(s:Shared) (u:Value),BindsTo s fd ⟨[u],[]⟩ [("_law_script",u)])/\∀base:Heap,(K w.params).In base->base.Ns mainGlobals mg->cf l.prog w (K w.params) mg base ir 7 fa fd ["_law_script"] (qj (K w.params))) :
  PySem.W.WalkO q loose XP YP l.row.toRowW d [] (fun f vs=>PySem.call f vs):=
 L2.v8 (n:=63) (k:=7) (x := "_law_script") (CX:=fun _=>ir) (sp:=fun w=>qj (K w.params)) hn (by decide) Cw ⟨rfl,by decide,by decide,rfl⟩ hY F (fun _ _ a ns hl _ hS=>⟨a,ns,rfl,hS,hl,fun _=>rfl⟩) fun _ _ _ _ _ z=>z
end Z
open PySem PySem.W PyProof.Rows L2
set_option maxRecDepth 100000 in
set_option maxHeartbeats 0 in
theorem PySem.Challenge.cw_oddlong_k62_greatest_delay_holds : PySem.Challenge.rw_oddlong_k62_greatest_delay.Holds := by
  w_on; o_law; k_head; (case hw => w_witness2)
  k_fill
  refine Z.walk (l := PySem.Challenge.rw_oddlong_k62_greatest_delay) rfl rfl (fun w h Y => PySem.W.kIn_of Y) ?F
  case F =>
    intro w mg fa h KX G hmg
    refine' Z.all_mk KX G hmg ?a1 ?F1 ?a2 ?F2 ?a3 ?F3 ?a4 ?F4 ?a5 ?F5 ?a6 ?F6 ?a7 ?F7 ?a8 ?F8 ?a9 ?F9 ?Ff ?B4 ?DU ?B9 ?DW ?Bv ?FI ?Cy ?DG ?AJ ?Eb ?CO ?DI ?Bt ?E4 ?AA ?Eu ?EN ?DH ?Es ?y0 ?y1 ?z0 ?z1 ?z2 ?z3 ?z4 ?z5 ?z6 ?z7 ?z8 ?z9 ?FH ?Fy ?FC ?GC ?D3 ?Gu
    (case a1 => k_is); (case F1 => (refine' bS ?l ?c ?k; (case l => k_is); (case c => k_is); (case k => k_is))); (case a2 => k_is); (case F2 => (refine' bS ?l ?c ?k; (case l => k_is); (case c => k_is); (case k => k_is))); (case a3 => k_is); (case F3 => (refine' bS ?l ?c ?k; (case l => k_is); (case c => k_is); (case k => k_is))); (case a4 => k_is); (case F4 => (refine' bS ?l ?c ?k; (case l => k_is); (case c => k_is); (case k => k_is)))
    (case a5 => k_is); (case F5 => (refine' bS ?l ?c ?k; (case l => k_is); (case c => k_is); (case k => k_is))); (case a6 => k_is); (case F6 => (refine' bS ?l ?c ?k; (case l => k_is); (case c => k_is); (case k => k_is))); (case a7 => k_is); (case F7 => (refine' bS ?l ?c ?k; (case l => k_is); (case c => k_is); (case k => k_is))); (case a8 => k_is); (case F8 => (refine' bS ?l ?c ?k; (case l => k_is); (case c => k_is); (case k => k_is)))
    (case a9 => k_is); (case F9 => (refine' bS ?l ?c ?k; (case l => k_is); (case c => k_is); (case k => k_is))); (case Ff => k_is); (case B4 => (refine' bS ?l ?c ?k; (case l => k_is); (case c => k_is); (case k => k_is))); (case DU => k_is); (case B9 => (refine' bS ?l ?c ?k; (case l => k_is); (case c => k_is); (case k => k_is))); (case DW => k_is); (case Bv => (refine' bS ?l ?c ?k; (case l => k_is); (case c => k_is); (case k => k_is)))
    (case FI => k_is); (case Cy => (refine' bS ?l ?c ?k; (case l => k_is); (case c => k_is); (case k => k_is))); (case DG => k_is); (case AJ => (refine' bS ?l ?c ?k; (case l => k_is); (case c => k_is); (case k => k_is))); (case Eb => k_is); (case CO => (refine' bS ?l ?c ?k; (case l => k_is); (case c => k_is); (case k => k_is))); (case DI => k_is); (case Bt => (refine' bS ?l ?c ?k; (case l => k_is); (case c => k_is); (case k => k_is)))
    (case E4 => k_is); (case AA => (refine' bS ?l ?c ?k; (case l => k_is); (case c => k_is); (case k => k_is))); (case Eu => k_is); (case EN => k_is); (case DH => k_is); (case Es => k_is); (case y0 => k_is); (case y1 => k_is)
    (case z0 => k_is); (case z1 => k_is); (case z2 => k_is); (case z3 => k_is); (case z4 => k_is); (case z5 => k_is); (case z6 => k_is); (case z7 => k_is)
    (case z8 => k_is); (case z9 => k_is); (case FH => k_is); (case Fy => k_is); (case FC => k_is); (case GC => k_is); (case D3 => k_is); (case Gu => k_is)
