import PyProof.Rows.All
import Wide.All
import OpenK.AllK
import Wide.FinOn
import PyProof.EqAt
import PyProof.EqKinds
import PyProof.TupleCall
import PyProof.DictCompW
import PyProof.Rows.SortWalk
import OpenK.KRaise
import PyProof.ExcClass2
import KE.KTryMore
import KE.KSortTup
import KE.KIsAll
import PyProof.ListRange
import PyProof.StrBlock2
import PyProof.Rows.SetFrom
import PyProof.SetRoads
import PyProof.ReprRoads
import PyProof.CallStr
import PyProof.Rows.SortStr
import KE.KSortKey
import KE.KMinKey
import PyProof.Rows.Range3
import PyProof.Rows.IntBool
import KE.KRevIter
import PyProof.MeetsSeq
import PyProof.MinMaxWalk
import PyProof.SliceStr2
import PyProof.P3Eq
import PyProof.Rows.StrLen
import PyProof.Rows.StrCase
import PyProof.InstStoreFacts
import PyProof.ExcInit
import PyProof.StrCalls
import PyProof.DictIter
import PyProof.DictWalks
import PyProof.AutoIntG2
import PyProof.Rows.TupDisplay
import KE.KDictList
import PyProof.DictItems
import PyProof.RulesTry
import PyProof.EnumMake
import PyProof.Draws
import PyProof.FactsAll.set_1
import PyProof.IsiH_list
import KE.KDictOf
import PyProof.DictUpdate
import PyProof.StrLawsRepr
import PyProof.Rows.StrJoinMade
import PyProof.Rows.ReprOcc
import Lean
import PySem.Challenge.RW_oddlong_k64_shows_ranks
local macro_rules | `(tactic| omega) => `(tactic| lia)
set_option Elab.async false
set_option linter.all false
set_option maxRecDepth 100000
open List renaming length_map → Ja, getElem?_eq_getElem → Jd, length_append → Jf, mem_singleton → Jg, mem_append → Jh, mem_append_right → Ji, getElem?_map → Jk, map_append → Jl, size_toArray → Jm, mem_cons_of_mem → Jn, getElem_mem → Jo, replicate → Jp, mem_cons_self → Jq, getElem?_eq_some_iff → Jx, getElem?_append_right → Jz, length_cons → J0, length_take → J1, take_length → J3, eq_nil_of_length_eq_zero → J5, getElem?_append_left → J6, pairwise_append → J8, mem_append_left → Uc, mem_map → Ug, mem_cons → Uh, length_drop → Ui, map_cons → Uj, append_assoc → Ul, length_replicate → Uo, lookup_cons → Us, range → Uu, nodup_iff_pairwise_ne → Uz, getElem?_replicate → U0, nodup_cons → U1, Perm → U2, mem_iff_getElem? → U3, mem_map_of_mem → U5, append_nil → U6, pairwise_iff_getElem → Ya, replicate_succ → Yd, take_append_drop → Ye, length_range → Yf, eraseIdx_eq_take_drop_succ → Yg, all_eq_true → Yh, take_of_length_le → Yi, length → Yj, perm_append_comm → Yl, length_nil → Yn, mem_reverse → Yp, mem_iff_getElem → Yq, mem_range → Yr, getD_eq_getElem?_getD → Yt, drop_eq_getElem_cons → Yy, mem_of_mem_take → Y2, mem_of_mem_drop → Y3, take_sublist → Y5, pairwise_singleton → Y6, map_map → Y9, of_mem_zip → Wb, mem_of_getElem? → Wd, pairwise_map → Wg, drop_sublist → Wi, nodup_nil → Wm
open PySem.W renaming Frag → Jb, nsIn → Jy, mg_none_of → Ud, mg_of → Ue, kia_one → Yc, kitOne → Ys, fnOf → We
open PySem.Heap renaming get?_push_of_some → Jc, lt_size → Jj, get?_push_size → Js, get?_update_other → Uk, get?_update_self → Ux, get?_update_ne → Yv, SameBut → Y0, size_push → Wl
open Nat renaming le_refl → Je, le_trans → Jr, lt_of_lt_of_le → Jt, ne_of_lt → Jw, lt_of_le_of_lt → Ub, zero_le → Um, lt_of_le_of_ne → Uq, le_add_right → Uw, le_of_lt → Uy, add_le_add_left → U4, lt_irrefl → U7, ne_of_gt → Ym, le_of_eq → Yu, le_succ → Yw, min_eq_left → Yx, le_of_not_lt → Yz, le_sub_one_of_lt → Y1, sub_one_lt_of_le → Y4, add_sub_of_le → Y7, add_sub_cancel_left → Y8, lt_succ_of_lt → Wf, le_of_lt_succ → Wh, lt_of_succ_lt → Wj, succ_le_succ → Wk
open Bool renaming false_ne_true → Ju, false_eq_true → J9, eq_false_iff → Ur, and_eq_true → Uv
open Array renaming length_toList → Jv, getElem?_eq_getElem → J7, getElem?_toList → Ua, toList_append → Ut, toList_push → U9, getElem?_eq_none → Yb, perm_iff_toList_perm → Wa, size_push → Wc
open Int renaming toNat_natCast → U8, le_refl → Yk, le_of_lt → Yo
namespace L2
set_option genSizeOf false
set_option genInjectivity false
inductive cq {α0 α1:Type}(P: α0 -> α1->Prop):Prop|mk (x0: α0) (x1: α1) (h:P x0 x1):cq P
inductive gO {α0 α1 α2:Type}(P: α0 -> α1 -> α2->Prop):Prop|mk (x0: α0) (x1: α1) (x2: α2) (h:P x0 x1 x2):gO P
inductive pW {α0 α1 α2 α3:Type}(P: α0 -> α1 -> α2 -> α3->Prop):Prop|mk (x0: α0) (x1: α1) (x2: α2) (x3: α3) (h:P x0 x1 x2 x3):pW P
inductive BM {α0 α1 α2 α3 α4:Type}(P: α0 -> α1 -> α2 -> α3 -> α4->Prop):Prop|mk (x0: α0) (x1: α1) (x2: α2) (x3: α3) (x4: α4) (h:P x0 x1 x2 x3 x4):BM P
inductive GY {α0 α1 α2 α3 α4 α5:Type}(P: α0 -> α1 -> α2 -> α3 -> α4 -> α5->Prop):Prop|mk (x0: α0) (x1: α1) (x2: α2) (x3: α3) (x4: α4) (x5: α5) (h:P x0 x1 x2 x3 x4 x5):GY P
set_option genSizeOf true
set_option genInjectivity true
class ae (P:Prop) (F:outParam (Prop->Prop)):Prop where
 el:P->∀G:Prop,F G->G
theorem ae.go {P:Prop}{F:Prop->Prop}[i:ae P F]{G:Prop}(k:F G):P->G:=fun h=>i.el h G k
instance (priority:=low) elimBase {P:Prop}:ae P (fun G=>P->G):=⟨fun h _ k=>k h⟩
instance Kx {α:Sort u} {P: α->Prop} {F: α->Prop->Prop} [h:∀x,ae (P x) (F x)]:ae (∃x,P x) (fun G=>∀x,F x G):=⟨fun⟨x,hx⟩ G k=>(h x).el hx G (k x)⟩
instance Ik {A B:Prop} {F:Prop->Prop} [h:ae B F]:ae (A/\B) (fun G=>A->F G):=⟨fun⟨a,b⟩ G k=>h.el b G (k a)⟩
instance Ic {α0 α1:Type} {P: α0 -> α1->Prop} {F: α0 -> α1->Prop->Prop} [i:∀x0 x1,ae (P x0 x1) (F x0 x1)]:ae (cq P) (fun G=>∀x0 x1,F x0 x1 G):=⟨fun⟨x0,x1,h⟩ G k=>(i x0 x1).el h G (k x0 x1)⟩
instance HW {α0 α1 α2:Type} {P: α0 -> α1 -> α2->Prop} {F: α0 -> α1 -> α2->Prop->Prop} [i:∀x0 x1 x2,ae (P x0 x1 x2) (F x0 x1 x2)]:ae (gO P) (fun G=>∀x0 x1 x2,F x0 x1 x2 G):=⟨fun⟨x0,x1,x2,h⟩ G k=>(i x0 x1 x2).el h G (k x0 x1 x2)⟩
instance Ir {α0 α1 α2 α3:Type} {P: α0 -> α1 -> α2 -> α3->Prop} {F: α0 -> α1 -> α2 -> α3->Prop->Prop} [i:∀x0 x1 x2 x3,ae (P x0 x1 x2 x3) (F x0 x1 x2 x3)]:ae (pW P) (fun G=>∀x0 x1 x2 x3,F x0 x1 x2 x3 G):=⟨fun⟨x0,x1,x2,x3,h⟩ G k=>(i x0 x1 x2 x3).el h G (k x0 x1 x2 x3)⟩
instance HS {α0 α1 α2 α3 α4:Type} {P: α0 -> α1 -> α2 -> α3 -> α4->Prop} {F: α0 -> α1 -> α2 -> α3 -> α4->Prop->Prop} [i:∀x0 x1 x2 x3 x4,ae (P x0 x1 x2 x3 x4) (F x0 x1 x2 x3 x4)]:ae (BM P) (fun G=>∀x0 x1 x2 x3 x4,F x0 x1 x2 x3 x4 G):=⟨fun⟨x0,x1,x2,x3,x4,h⟩ G k=>(i x0 x1 x2 x3 x4).el h G (k x0 x1 x2 x3 x4)⟩
instance Ii {α0 α1 α2 α3 α4 α5:Type} {P: α0 -> α1 -> α2 -> α3 -> α4 -> α5->Prop} {F: α0 -> α1 -> α2 -> α3 -> α4 -> α5->Prop->Prop} [i:∀x0 x1 x2 x3 x4 x5,ae (P x0 x1 x2 x3 x4 x5) (F x0 x1 x2 x3 x4 x5)]:ae (GY P) (fun G=>∀x0 x1 x2 x3 x4 x5,F x0 x1 x2 x3 x4 x5 G):=⟨fun⟨x0,x1,x2,x3,x4,x5,h⟩ G k=>(i x0 x1 x2 x3 x4 x5).el h G (k x0 x1 x2 x3 x4 x5)⟩
open PySem PySem.Spec PyProof.Rows
noncomputable abbrev Key:=Sum Int Str
noncomputable def mn:Key->Value->Bool
 | .inl k,v=>Value.isInt k v
 | .inr x,v=>Value.isStrOf x v
noncomputable def MB (w:World):Key->Int
 | .inl k=>hashInt k
 | .inr x=>hashStr w x
theorem bD:∀{k:Key} {v:Value},mn k v=true->(∃i t,k=Sum.inl i/\v=Value.int i t)∨(∃x t,k=Sum.inr x/\v=Value.str x t)
 | .inl i,v,h=>by
  obtain⟨t,e⟩:=Value.isInt_shape (k:=i) (v:=v) h
  exact .inl ⟨i,t,rfl,e⟩
 | .inr x,v,h=>by
  obtain⟨t,e⟩:=Value.isStrOf_shape (x:=x) (v:=v) h
  exact .inr ⟨x,t,rfl,e⟩
theorem vw (i:Int)(t:Tok):mn (.inl i) (.int i t)=true:=by simp[mn,Value.isInt]
theorem uX (x:Str)(t:Tok):mn (.inr x) (.str x t)=true:=by simp[mn,Value.isStrOf]
theorem Dx (a b:Int):decide ((Sum.inl a:Key)=Sum.inl b)=(a==b):=by
 by_cases e:a=b
 ·subst e;simp
 ·have h:¬(Sum.inl a:Key)=Sum.inl b:=fun q=>e (Sum.inl.inj q)
  rw[decide_eq_false h]
  exact(beq_eq_false_iff_ne.mpr e).symm
theorem C6 (a b:Str):decide ((Sum.inr a:Key)=Sum.inr b)=decide (a=b):=by
 by_cases e:a=b
 ·subst e;simp
 ·have h:¬(Sum.inr a:Key)=Sum.inr b:=fun q=>e (Sum.inr.inj q)
  rw[decide_eq_false h,decide_eq_false e]
theorem CO (a:Int)(b:Str):decide ((Sum.inl a:Key)=Sum.inr b)=false:=decide_eq_false (fun q=>nomatch q)
theorem C3 (a:Str)(b:Int):decide ((Sum.inr a:Key)=Sum.inl b)=false:=decide_eq_false (fun q=>nomatch q)
noncomputable def aR (prog:Program)(w:World):PySem.KeyKind prog w Key where
 is:=mn
 hash:=MB w
 inj:=fun v a b ha hb=>by
  rcases bD ha with ⟨i,t,rfl,rfl⟩|⟨x,t,rfl,rfl⟩
  ·rcases bD hb with ⟨j,u,rfl,e⟩|⟨y,u,rfl,e⟩
   ·injection e with e1 _;rw[e1]
   ·exact nomatch e
  ·rcases bD hb with ⟨j,u,rfl,e⟩|⟨y,u,rfl,e⟩
   ·exact nomatch e
   ·injection e with e1 _;rw[e1]
 byValue:=fun k v h=>by
  rcases bD h with ⟨i,t,rfl,rfl⟩|⟨x,t,rfl,rfl⟩<;>rfl
 pyHash:=fun hv h=>by
  rcases bD hv with ⟨i,t,rfl,rfl⟩|⟨x,t,rfl,rfl⟩
  ·exact wpAny_pyHash_int h
  ·exact wpAny_pyHash_str h
 eqBool:=fun hu hv h=>by
  rcases bD hu with ⟨i,t,rfl,rfl⟩|⟨x,t,rfl,rfl⟩
  ·rcases bD hv with ⟨j,u,rfl,rfl⟩|⟨y,u,rfl,rfl⟩
   ·rw[Dx] at h;exact wpAny_eqBool_int h
   ·rw[CO] at h;exact SeqAt.EqAt.int_str i t y u _ _ _ _ h
  ·rcases bD hv with ⟨j,u,rfl,rfl⟩|⟨y,u,rfl,rfl⟩
   ·rw[C3] at h;exact SeqAt.EqAt.str_int x t j u _ _ _ _ h
   ·rw[C6] at h;exact wpAny_eqBool_str h
 «strs»:=fun k x t v h=>by
  rcases bD h with ⟨i,u,rfl,e⟩|⟨y,u,rfl,e⟩
  ·exact nomatch e
  ·injection e with e1 _
   subst e1
   cases v<;>rfl
theorem qu (prog:Program)(w:World)(i:Int)(t:Tok):(aR prog w).is (.inl i) (.int i t)=true:=vw i t
theorem qN (prog:Program)(w:World)(x:Str)(t:Tok):(aR prog w).is (.inr x) (.str x t)=true:=uX x t
inductive V where
 | non|bl (b:Bool)|int (i:Int)|str (x:Str)|byt (b:Array UInt8)|flt (b:UInt64)|ref (a:Addr)|ty (n:String)
 deriving DecidableEq
def RelV:V->Value->Prop
 | .non,u=>u=Value.none
 | .bl b,u=>u=Value.bool b
 | .int i,u=>∃t,u=Value.int i t
 | .str x,u=>∃t,u=Value.str x t
 | .byt b,u=>∃t,u=Value.bytes b t
 | .flt b,u=>∃t,u=Value.float b t
 | .ref a,u=>u=Value.ref a
 | .ty n,u=>u=Value.type n
abbrev Vals:List V->List Value->Prop:=Paired RelV
theorem Vals.length {xs:List V}{us:List Value}(r:Vals xs us):xs.length=us.length:=Paired.length r
theorem Vals.get:∀{xs:List V} {us:List Value} {i:Nat} {x:V},Vals xs us->xs[i]? = some x->∃u,us[i]? = some u/\RelV x u
 | _,_,_,_,.nil,e=>by simp at e
 | _,_,0,_,.cons r _,e=>by simp at e;subst e;exact⟨_,rfl,r⟩
 | _,_,i+1,x,.cons _ t,e=>by
  obtain⟨u,h1,h2⟩:=Vals.get (i:=i) (x:=x) t (by simpa using e)
  exact⟨u,by simpa using h1,h2⟩
theorem Vals.set {x:V}{u:Value}(r:RelV x u):∀{xs:List V} {us:List Value} (i:Nat),Vals xs us->Vals (xs.set i x) (us.set i u)
 | _,_,_,.nil =>.nil
 | _,_,0,.cons _ t =>.cons r t
 | _,_,i+1,.cons q t =>.cons q (Vals.set r i t)
theorem Vals.append {xs ys:List V}{us ws:List Value}(h:Vals xs us)(s:Vals ys ws):Vals (xs++ys) (us++ws):=by
 induction h with
 | nil=>exact s
 | cons r t ih=>exact .cons r ih
theorem Vals.take:∀{xs:List V} {us:List Value} (n:Nat),Vals xs us->Vals (xs.take n) (us.take n)
 | _,_,0,_ =>.nil
 | _,_,_+1,.nil =>.nil
 | _,_,n+1,.cons r t =>.cons r (Vals.take n t)
theorem Vals.drop:∀{xs:List V} {us:List Value} (n:Nat),Vals xs us->Vals (xs.drop n) (us.drop n)
 | _,_,0,r=>r
 | _,_,_+1,.nil =>.nil
 | _,_,n+1,.cons _ t=>Vals.drop n t
def jj:Option V->Option Value->Prop
 | some v,some u=>RelV v u
 | none,none=>True
 | _,_=>False
def KV {κ:Type}:List (κ×V)->List (κ×Value)->Prop:=Paired fun(p: κ×V) (q: κ×Value)=>p.1=q.1/\RelV p.2 q.2
noncomputable def kV:Key->V
 | .inl i =>.int i
 | .inr x =>.str x
inductive HO where
 | lst (xs:List V)
 | tup (xs:List V)
 | dK (kvs:List (Key×V))|dT (kvs:List (List Key×V))
 | set (S:Int->Bool) (n:Nat)
 | ins (C dx:Addr) (fs:List (Str×V))
 | own (x:Addr)
 | xd (fs:List (Str×V))
 | met (f x:Addr)
 | rng (lo hi:Int)
 | frz (o:Obj) (u:HO)
 | tbl (ps:Array Value)
 | ext (φ:Heap->Prop)
noncomputable abbrev Hp:=Addr->Option HO
noncomputable def upd (H:Hp)(a:Addr)(o:HO):Hp:=fun b=>if b=a then some o else H b
theorem ax {H:Hp}{a:Addr}{o:HO}:upd H a o a=some o:=by unfold upd;rw[if_pos rfl]
theorem ak {H:Hp}{a b:Addr}{o:HO}(h:b≠a):upd H a o b=H b:=by unfold upd;rw[if_neg h]
theorem AK {H:Hp}{a:Addr}{o u:HO}:upd (upd H a o) a u=upd H a u:=by
 funext b;unfold upd;split<;>rfl
theorem BE {H:Hp}{a b:Addr}{o u:HO}(h:H a=some o)(h':H b=some u)(d:o≠u):a≠b:=by
 intro e;subst e;rw[h] at h';exact d (Option.some.inj h')
theorem aq {H:Hp}{a b:Addr}{o:HO}(h:H a=some o)(h':H b=none):a≠b:=by
 intro e;subst e;rw[h] at h';cases h'
section
variable (P:Program)(w:World)
def bF (H:Hp)(h:Heap)(a:Addr):HO->Prop
 | .lst xs=>xs.length<=sizeLine/\cq fun(ay:List Value) (n:Nat)=>Vals xs ay/\h.get? a=some { cls := .type "list",data := .seq ay.toArray n }
 | .tup xs=>xs.length<=sizeLine/\∃ay:List Value,Vals xs ay/\IsTup h a ay.toArray
 | .dK kvs=>kvs.length<=sizeLine/\(a==sysModules)=false/\∃vs,KV kvs vs/\h.DictOf (aR P w) a vs
 | .dT kvs=>kvs.length<=sizeLine/\(a==sysModules)=false/\∃xs:List (List Key×Addr×Value),
   Paired (fun(p:List Key×V) (q:List Key×Addr×Value)=>p.1=q.1/\H q.2.1=some (.tup (p.1.map kV))/\RelV p.2 q.2.2) kvs xs /\
   gO fun o es ep=>h.get? a=some o/\o.ExactDict/\o.data = .dict es ep/\es.toList=xs.map (entryOfKey (tupleKind (aR P w)))/\(xs.map (·.1)).Nodup
 | .set S n=>h.SetOf (intKind P w) a S n
 | .ins C dx fs=>H dx=some (.own a)/\fs.length<=1000/\dx≠a/\h.get? a=some (PySem.W.instObj C dx) /\
   ∃mA,h.Ns1 dx mA/\(∀f,jj (fs.lookup f) (mA f))/\PySem.Within mA (fs.map (·.1))
 | .own _=>∃o,h.get? a=some o
 | .xd fs=>∃mA,h.Ns1 a mA/\∀f,jj (fs.lookup f) (mA f)
 | .rng lo hi=>gO fun t u v=>h.get? a=some { cls := .type "range",data := .fields #[.int lo t,.int hi u,.int 1 v] }
 | .frz o u=>h.get? a=some o/\bF H h a u
 | .tbl ps=>h.get? a=some { cls := .none,data := .fields ps }
 | .met f x=>h.get? a=some (PySem.W.methodObj (.ref f) (.ref x))
 | .ext φ => φ h/\(∃o,h.get? a=some o)/\∀h1 h2:Heap, φ h1->(∀o,h1.get? a=some o->h2.get? a=some o) -> φ h2
def fK (H:Hp)(h:Heap):Prop:=∀a o,H a=some o->bF P w H h a o
end
section
variable {P:Program}{w:World}{H H':Hp}{h h':Heap}{a:Addr}{o:HO}
theorem bF.lt (x:bF P w H h a o):a<h.objs.size:=by
 cases o with
 | lst xs=>obtain⟨_,_,_,_,e⟩:=x;exact Jj e
 | tup xs=>obtain⟨_,_,_,p⟩:=x;exact p.lt
 | dK kvs=>obtain⟨_,_,_,_,o,_,_,e,_⟩:=x;exact Jj e
 | dT kvs=>obtain⟨_,_,_,_,o,_,_,e,_⟩:=x;exact Jj e
 | set S n=>obtain⟨o,_,_,_,e,_⟩:=x;exact Jj e
 | ins C dx fs=>obtain⟨_,_,_,e,_⟩:=x;exact Jj e
 | own y=>obtain⟨_,e⟩:=x;exact Jj e
 | xd fs=>obtain⟨_,⟨_,_,_,e,_⟩,_⟩:=x;exact Jj e
 | rng lo hi=>obtain⟨_,_,_,e⟩:=x;exact Jj e
 | frz ob u=>obtain⟨e,_⟩:=x;exact Jj e
 | tbl ps=>exact Jj (show h.get? a=some _ from x)
 | met f y=>exact Jj (show h.get? a=some _ from x)
 | ext φ=>obtain⟨_,⟨_,e⟩,_⟩:=x;exact Jj e
theorem Paired.DR {α β:Type}{F G: α -> β->Prop}{l₁:List α}{l₂:List β}(h:Paired F l₁ l₂)(f:∀a b,F a b->G a b):Paired G l₁ l₂:=by
 induction h with
 | nil=>exact .nil
 | cons r t ih=>exact .cons (f _ _ r) ih
theorem Paired.imp' {α β:Type}{F G: α -> β->Prop}(f:∀a b,F a b->G a b){l₁:List α}{l₂:List β}(r:Paired F l₁ l₂):Paired G l₁ l₂:=Paired.DR r f
theorem bF.lW (x:bF P w H h a o)(k:∀b u,(b=a∨H b=some (.own a))->h.get? b=some u->h'.get? b=some u)
  (ho:∀b,H b=some (.own a)->H' b=some (.own a)) (ht:∀b xs,H b=some (.tup xs)->H' b=some (.tup xs)):bF P w H' h' a o:=by
 induction o with
 | lst xs=>obtain⟨z,ay,n,r,e⟩:=x;exact⟨z,ay,n,r,k _ _ (.inl rfl) e⟩
 | tup xs=>obtain⟨z,ay,r,ob,e,c⟩:=x;exact⟨z,ay,r,ob,k _ _ (.inl rfl) e,c⟩
 | dK kvs=>obtain⟨z,y,vs,r,ob,es,ep,e,c⟩:=x;exact⟨z,y,vs,r,ob,es,ep,k _ _ (.inl rfl) e,c⟩
 | dT kvs=>
  obtain⟨z,y,xs,r,ob,es,ep,e,c⟩:=x
  exact⟨z,y,xs,Paired.DR r fun p q z=>⟨z.1,ht _ _ z.2.1,z.2.2⟩,ob,es,ep,k _ _ (.inl rfl) e,c⟩
 | set S n=>obtain⟨ob,es,ep,t,e,c⟩:=x;exact⟨ob,es,ep,t,k _ _ (.inl rfl) e,c⟩
 | ins C dx fs=>
  obtain⟨d,z,ne,e,mA,⟨od,es,ep,e2,c⟩,r⟩:=x
  exact⟨ho _ d,z,ne,k _ _ (.inl rfl) e,mA,⟨od,es,ep,k _ _ (.inr d) e2,c⟩,r⟩
 | own y=>obtain⟨ob,e⟩:=x;exact⟨ob,k _ _ (.inl rfl) e⟩
 | xd fs=>obtain⟨mA,⟨od,es,ep,e,c⟩,r⟩:=x;exact⟨mA,⟨od,es,ep,k _ _ (.inl rfl) e,c⟩,r⟩
 | rng lo hi=>obtain⟨t,u,v,e⟩:=x;exact⟨t,u,v,k _ _ (.inl rfl) e⟩
 | frz ob u ih=>obtain⟨e,q⟩:=x;exact⟨k _ _ (.inl rfl) e,ih q⟩
 | tbl ps=>
  have e:h.get? a=some { cls := .none,data := .fields ps }:=x
  show h'.get? a=some { cls := .none,data := .fields ps }
  exact k a _ (.inl rfl) e
 | met f y=>
  have e:h.get? a=some (PySem.W.methodObj (.ref f) (.ref y)):=x
  show h'.get? a=some (PySem.W.methodObj (.ref f) (.ref y))
  exact k a _ (.inl rfl) e
 | ext φ=>obtain⟨p,⟨o,e⟩,st⟩:=x;exact⟨st _ _ p fun o q=>k _ _ (.inl rfl) q,⟨o,k _ _ (.inl rfl) e⟩,st⟩
theorem fK.lt (x:fK P w H h)(e:H a=some o):a<h.objs.size:=(x a o e).lt
theorem fK.fresh (x:fK P w H h)(e:h.objs.size<=a):H a=none:=by
 cases q:H a with
 | none=>rfl
 | some u=>exact absurd (Jt (x.lt q) e) (U7 _)
theorem fK.kept (x:fK P w H h)(k:∀b u,h.get? b=some u->h'.get? b=some u):fK P w H h':=fun a o e=>
 (x a o e).lW (fun b u _ q=>k b u q) (fun _ q=>q) fun _ _ q=>q
theorem fK.laid (x:fK P w H h)(k:∀b u,h.get? b=some u->h'.get? b=some u)(hp:h.objs.size<=a)(new:bF P w (upd H a o) h' a o):fK P w (upd H a o) h':=fun b u e=>by
 have hn:=x.fresh hp
 by_cases hb:b=a
 ·subst hb;rw[ax] at e;cases e;exact new
 ·rw[ak hb] at e
  exact(x b u e).lW (fun c v _ q=>k c v q) (fun c q=>by rw[ak (aq q hn)];exact q) fun c xs q=>by rw[ak (aq q hn)];exact q
end
def Rd (H:Hp)(a:Addr)(u:HO):Prop:=H a=some u∨∃o,H a=some (.frz o u)
theorem Rd.ok {P:Program}{w:World}{H:Hp}{h:Heap}{a:Addr}{u:HO}(r:Rd H a u)(x:fK P w H h):bF P w H h a u:=by
 rcases r with r|⟨o,r⟩
 ·exact x a u r
 ·obtain⟨_,q⟩:=x a _ r
  exact q
def Ey:Option HO->Prop
 | some (.lst _)=>True
 | some (.dK _)=>True
 | some (.dT _)=>True
 | some (.set _ _)=>True
 | some (.ins _ _ _)=>True
 | some (.ext _)=>True
 | _=>False
section
variable {P:Program}{w:World}{H:Hp}{h h':Heap}{x e:Addr}{o':HO}
theorem fK.write (ok:fK P w H h)(mu:Ey (H x))(he:e=x∨H e=some (.own x))(k:∀b u,b≠e->h.get? b=some u->h'.get? b=some u)(DY:∃u,h'.get? e=some u)
  (new:bF P w (upd H x o') h' x o'):fK P w (upd H x o') h':=fun b u q=>by
 have Ga:∀c y,H c=some (.own y)->c≠x:=fun c y r z=>by subst z;rw[r] at mu;exact mu
 have KY:∀c xs,H c=some (.tup xs)->c≠x:=fun c xs r z=>by subst z;rw[r] at mu;exact mu
 by_cases hb:b=x
 ·subst hb;rw[ax] at q;cases q;exact new
 ·rw[ak hb] at q
  by_cases hbe:b=e
  ·have q':H b=some (.own x):=by
    rcases he with z|z
    ·exact absurd (hbe.trans z) hb
    ·rw[hbe];exact z
   rw[q] at q';cases q'
   obtain⟨v,hv⟩:=DY
   exact⟨v,by rw[hbe];exact hv⟩
  ·refine(ok b u q).lW (fun c v hc r=>k c v ?_ r) (fun c r=>by rw[ak (Ga c b r)];exact r) fun c xs r=>by rw[ak (KY c xs r)];exact r
   rcases hc with rfl|hc
   ·exact hbe
   ·rintro rfl
    rcases he with z|z
    ·exact Ga c b hc z
    ·rw[hc] at z;cases z;exact hb rfl
end
structure Un (fs ex:List Addr)(H H':Hp)(h h':Heap):Prop where
 keep:∀b o,h.get? b=some o->H b=none->b∉fs->b∉ex->h'.get? b=some o
 slot:∀b o,h.get? b=some o->H b=none->b∈fs->b∉ex->∃sl,h'.get? b=some { o with slots:=sl }
 free:∀b o,h.get? b=some o->H b=none->b∉ex->H' b=none
 there:∀b o,h.get? b=some o->b∉ex->∃o',h'.get? b=some o'
 gb:∀b xs,H b=some (.tup xs)->H' b=some (.tup xs)
 fj:∀b o u,H b=some (.frz o u)->H' b=some (.frz o u)
 fR:∀b ps,H b=some (.tbl ps)->∃more,H' b=some (.tbl (ps++more))
section
variable {fs nF ex Q9:List Addr}{H H1 H2:Hp}{h h1 h2 h':Heap}{a x e:Addr}{o:HO}
theorem Un.any (u:Un fs ex H H1 h h1){b:Addr}{ob:Obj}(q:h.get? b=some ob)(n:H b=none)(hx:b∉ex):∃sl,h1.get? b=some { ob with slots:=sl }:=by
 by_cases hb:b∈fs
 ·exact u.slot b ob q n hb hx
 ·exact⟨ob.slots,u.keep b ob q n hb hx⟩
theorem Un.trans (a:Un fs ex H H1 h h1)(b:Un fs ex H1 H2 h1 h2):Un fs ex H H2 h h2 where
 keep:=fun c ob q n hc hx=>b.keep c ob (a.keep c ob q n hc hx) (a.free c ob q n hx) hc hx
 slot:=fun c ob q n hc hx=>by
  obtain⟨sl,e1⟩:=a.slot c ob q n hc hx
  obtain⟨sl',e2⟩:=b.slot c _ e1 (a.free c ob q n hx) hc hx
  exact⟨sl',e2⟩
 free:=fun c ob q n hx=>by
  obtain⟨o',e1⟩:=a.there c ob q hx
  exact b.free c o' e1 (a.free c ob q n hx) hx
 there:=fun c ob q hx=>by
  obtain⟨o',e1⟩:=a.there c ob q hx
  exact b.there c o' e1 hx
 gb:=fun c xs q=>b.gb c xs (a.gb c xs q)
 fj:=fun c ob xs q=>b.fj c ob xs (a.fj c ob xs q)
 fR:=fun c ps q=>by
  obtain⟨m1,e1⟩:=a.fR c ps q
  obtain⟨m2,e2⟩:=b.fR c _ e1
  exact⟨m1++m2,by rw[e2,Array.append_assoc]⟩
theorem Un.kept (k:∀b u,h.get? b=some u->h'.get? b=some u):Un fs ex H H h h':=
 ⟨fun b ob q _ _ _=>k b ob q,fun b ob q _ _ _=>⟨ob.slots,k b ob q⟩,fun _ _ _ n _=>n,fun b ob q _=>⟨ob,k b ob q⟩,fun _ _ q=>q,fun _ _ _ q=>q,fun _ ps q=>⟨#[],by rw[q];simp⟩⟩
theorem Un.refl:Un fs ex H H h h:=Un.kept fun _ _ q=>q
theorem Un.laid (k:∀b u,h.get? b=some u->h'.get? b=some u)(hp:h.objs.size<=a)(hn:H a=none):Un fs ex H (upd H a o) h h' where
 keep:=fun b u q _ _ _=>k b u q
 slot:=fun b u q _ _ _=>⟨u.slots,k b u q⟩
 free:=fun b u q n _=>by rw[ak (Jw (Jt (Jj q) hp))];exact n
 there:=fun b u q _=>⟨u,k b u q⟩
 gb:=fun b xs q=>by rw[ak (aq q hn)];exact q
 fj:=fun b u xs q=>by rw[ak (aq q hn)];exact q
 fR:=fun b ps q=>⟨#[],by rw[ak (aq q hn),q];simp⟩
theorem Un.write (mu:Ey (H x))(he:e=x∨H e=some (.own x))(k:∀b u,b≠e->h.get? b=some u->h'.get? b=some u)(DY:∃u,h'.get? e=some u):Un fs ex H (upd H x o) h h':=by
 have hx:∀b,H b=none->b≠x:=fun b n z=>by subst z;rw[n] at mu;exact mu
 have hb:∀b,H b=none->b≠e:=fun b n z=>by
  subst z
  rcases he with r|r
  ·exact hx b n r
  ·rw[n] at r;cases r
 have hm:∀b u,H b=some u->¬Ey (some u)->b≠x:=fun b u q nm z=>by subst z;rw[q] at mu;exact nm mu
 refine⟨fun b u q n _ _=>k b u (hb b n) q,fun b u q n _ _=>⟨u.slots,k b u (hb b n) q⟩,fun b u q n _=>by rw[ak (hx b n)];exact n,fun b u q _ =>?_,
  fun b xs q=>by rw[ak (hm b _ q fun z=>z)];exact q,fun b u xs q=>by rw[ak (hm b _ q fun z=>z)];exact q,fun b ps q=>⟨#[],by rw[ak (hm b _ q fun z=>z),q];simp⟩⟩
 by_cases hbe:b=e
 ·subst hbe;exact DY
 ·exact⟨u,k b u hbe q⟩
end
noncomputable def HQ (h:Heap)(H:Hp):List Addr:=(Uu h.objs.size).filter fun a=>(H a).isSome
noncomputable def oJ (h:Heap)(H:Hp):Heap:=PySem.W.hideAll h (HQ h H)
theorem vn (h:Heap)(H:Hp):(oJ h H).objs.size=h.objs.size:=PySem.W.hideAll_size _ _
theorem j9 {h:Heap}{H:Hp}{b:Addr}{o:Obj}(e:h.get? b=some o)(n:H b=none):(oJ h H).get? b=some o:=
 PySem.W.hideAll_get _ e fun hm=>by
  have q:(H b).isSome=true:=(List.mem_filter.mp hm).2
  rw[n] at q;simp at q
theorem zN {h:Heap}{H:Hp}{b:Addr}{o:Obj}(e:(oJ h H).get? b=some o):h.get? b=some o/\H b=none:=by
 have e':h.get? b=some o:=PySem.W.of_hideAll (HQ h H) e
 refine⟨e',?_⟩
 cases q:H b with
 | none=>rfl
 | some x=>
  have hm:b∈HQ h H:=List.mem_filter.mpr ⟨Yr.mpr (Jj e'),by simp[q]⟩
  have z:(oJ h H).get? b=none:=PySem.W.hideAll_none (HQ h H) hm
  rw[z] at e;cases e
structure Mod (K:Jb)(mg:Str->Option Value)(base:Heap):Prop where
 kin:K.In base
 glob:base.Ns mainGlobals mg
 blt:∃mb,base.Ns builtinsNs mb/\∀x:Str,x ≠ "__name__" -> mb x=bootBuiltins x
 nolimit:base.NoLimit
structure Cx where
 prog:Program
 w:World
 K:Jb
 mg:Str->Option Value
 base:Heap
 A:Around
 N:List Str
 s₀:Shared
 H₀:Hp
 env:Env
 outer:List Env
 stack:List Env
 ex:List Addr
 fn:Str->Bool
 calm:Bool
 pn:List (Addr×Obj)
 xe:Value->Shared->Prop
noncomputable def nq (l:List Env):List Addr:=l.filterMap (·.frame)
noncomputable abbrev Cx.fs (X:Cx):List Addr:=nq X.outer
def FF (sc:Scope)(x:Str):Prop:=sc.names.lookup x=some .local∨sc.names.lookup x=some .cell∨sc.names.lookup x=some .free
def Loc (sc:Scope)(x:Str):Prop:=sc.names.lookup x=some .local∨sc.names.lookup x=some .cell
def Look (env:Env)(h:Heap)(m:Str->Option Value)(x:Str)(u:Value):Prop:=
 (env.kindOf x=some .local/\m x=some u)∨((env.kindOf x=some .cell∨env.kindOf x=some .free)/\∃c,env.cells.lookup x=some c/\h.IsCell c (some u))
structure Cx.Ok (X:Cx):Prop where
 mod:Mod X.K X.mg X.base
 kind:X.env.scope.kind = .function
 glob:X.env.globals=mainGlobals
 blt:X.env.builtins=builtinsNs
 above:X.s₀.heap.objs.size<=X.env.locals
 inj:∀x y c,X.env.cells.lookup x=some c->X.env.cells.lookup y=some c->x=y
 has:∀x,(X.env.kindOf x=some .cell∨X.env.kindOf x=some .free)->∃c,X.env.cells.lookup x=some c
 cab:∀x c,X.fn x=true->X.env.cells.lookup x=some c->X.s₀.heap.objs.size<=c
 hd:X.calm=true->X.A.handled=none
 frames:X.A.frames=some X.stack
 stk:X.stack=X.outer∨(X.stack=X.env::X.outer/\X.env.frame=some X.env.locals)
 exf:∀b∈X.ex,b≠X.env.locals/\∀x c,X.env.cells.lookup x=some c->c≠b
 bs:∀b o,X.base.get? b=some o->X.s₀.heap.get? b=some o/\X.H₀ b=none
 bsz:X.base.objs.size<=X.s₀.heap.objs.size
 noex:∀b o,X.base.get? b=some o->b∉X.ex
 exfs:∀b∈X.ex,b∉X.fs
 jv:X.s₀.heap.FunFrames X.base X.outer
 vV:∀b∈X.fs,X.H₀ b=none
structure Inv (X:Cx)(pins:List (Addr×Obj))(σ:List (Option V))(H:Hp)(s:Shared):Prop where
 ok:X.Ok
 os:s.os=X.s₀.os
 bare:AllBare s.gens
 base:Un X.fs X.ex X.H₀ H X.s₀.heap s.heap
 loc:∃m,s.heap.Ns X.env.locals m/\∀(i:Nat) (x:Str) (v:V),X.N[i]? = some x -> σ[i]? = some (some v)->FF X.env.scope x->∃u,RelV v u/\Look X.env s.heap m x u
 cell:∀x c,X.env.cells.lookup x=some c->∃v,s.heap.IsCell c v
 free:H X.env.locals=none
 freeC:∀x c,X.env.cells.lookup x=some c->H c=none
 pin:∀p∈X.pn++pins,s.heap.get? p.1=some p.2/\H p.1=none/\p.1≠X.env.locals/\p.1∉X.fs/\∀v,p.2.data ≠ .cell v
 bb:fK X.prog X.w H s.heap
 len: σ.length=X.N.length
section
variable {X:Cx}{pins:List (Addr×Obj)}{σ:List (Option V)}{H H':Hp}{s:Shared}{h':Heap}
theorem Cx.Ok.JL (ok:X.Ok){b:Addr}{o:Obj}(e:X.base.get? b=some o):b∉X.fs:=fun hb=>by
 have:=(ok.jv.mem hb).1
 rw[e] at this;cases this
theorem Inv.bs (I:Inv X pins σ H s):∀b o,X.base.get? b=some o->s.heap.get? b=some o/\H b=none:=fun b o e=>
 ⟨I.base.keep b o (I.ok.bs b o e).1 (I.ok.bs b o e).2 (I.ok.JL e) (I.ok.noex b o e),I.base.free b o (I.ok.bs b o e).1 (I.ok.bs b o e).2 (I.ok.noex b o e)⟩
theorem Inv.bk (I:Inv X pins σ H s):∀b o,X.base.get? b=some o->s.heap.get? b=some o:=fun b o e=>(I.bs b o e).1
theorem Inv.mod (I:Inv X pins σ H s):Mod X.K X.mg X.base:=I.ok.mod
theorem Inv.oW (I:Inv X pins σ H s):X.K.In s.heap:=I.ok.mod.kin.keeps I.bk
theorem Inv.lt (I:Inv X pins σ H s):X.env.locals<s.heap.objs.size:=let ⟨_,hn,_⟩:=I.loc;hn.lt
theorem Inv.sz (I:Inv X pins σ H s):X.s₀.heap.objs.size<=s.heap.objs.size:=Jr I.ok.above (Uy I.lt)
theorem Inv.GG (I:Inv X pins σ H s){a:Addr}(h:s.heap.objs.size<=a):a∉X.fs:=fun hb=>by
 obtain⟨_,o,ho,_⟩:=I.ok.jv.mem hb
 exact absurd (Jt (Jj ho) (Jr I.sz h)) (U7 _)
theorem Inv.BW (I:Inv X pins σ H s):∀x c,X.env.cells.lookup x=some c->c≠X.env.locals:=fun x c e z=>by
 obtain⟨v,o,ho,hd⟩:=I.cell x c e
 obtain⟨m,⟨o',es,ep,ho',hd',_⟩,_⟩:=I.loc
 rw[z,ho'] at ho;cases ho;rw[hd'] at hd;cases hd
theorem Inv.jv (I:Inv X pins σ H s):s.heap.FunFrames X.base X.outer:=by
 have all:∀(l:List Env),(∀b∈nq l,b∈X.fs)->X.s₀.heap.FunFrames X.base l->s.heap.FunFrames X.base l:=by
  intro l
  induction l with
  | nil=>intro _ _;trivial
  | cons env r ih=>
   intro hs hl
   obtain⟨hk,⟨L,o,hf,hn,ho,hd⟩,hr⟩:=hl
   have hL:L∈X.fs:=hs L (by unfold nq;rw[List.filterMap_cons,hf];exact Jq)
   obtain⟨sl,e⟩:=I.base.slot L o ho (I.ok.vV L hL) hL fun z=>I.ok.exfs L z hL
   exact⟨hk,⟨L,_,hf,hn,e,hd⟩,ih (fun b hb=>hs b (by unfold nq;rw[List.filterMap_cons,hf];exact Jn _ hb)) hr⟩
 exact all X.outer (fun _ hb=>hb) I.ok.jv
theorem Inv.stack (I:Inv X pins σ H s):s.heap.FunFrames X.base X.stack:=by
 rcases I.ok.stk with e|⟨e,hf⟩
 ·rw[e];exact I.jv
 ·rw[e]
  obtain⟨m,hn,_⟩:=I.loc
  refine .cons (by rw[I.ok.kind];decide) hf hn ?_ I.jv
  exact Heap.get?_none_of_le (Jr I.ok.bsz I.ok.above)
theorem Inv.oK (I:Inv X pins σ H s):∀b∈nq X.stack,b∈X.env.locals::X.fs:=fun b hb=>by
 rcases I.ok.stk with e|⟨e,hf⟩
 ·rw[e] at hb;exact Jn _ hb
 ·rw[e] at hb
  unfold nq at hb
  rw[List.filterMap_cons,hf] at hb
  exact hb
theorem Inv.tR (I:Inv X pins σ H s):∀b∈nq X.stack,H b=none:=fun b hb=>by
 rcases Uh.mp (I.oK b hb) with e|hb
 ·rw[e];exact I.free
 ·obtain⟨_,o,ho,_⟩:=I.ok.jv.mem hb
  exact I.base.free b o ho (I.ok.vV b hb) fun z=>I.ok.exfs b z hb
theorem Inv.step {g':Array GenState}{t':Nat}{d':Drawn}{ch:List Addr}(I:Inv X pins σ H s)
  (o8:∀b∈ch,(b∈X.ex∨X.s₀.heap.objs.size<=b)/\b≠X.env.locals/\(∀x c,X.env.cells.lookup x=some c->c≠b)/\∀p∈X.pn++pins,p.1≠b)
  (keep:∀b o,b≠X.env.locals->b∉X.fs->b∉ch->s.heap.get? b=some o->H b=none->h'.get? b=some o)
  (slot:∀b o,b≠X.env.locals->b∈X.fs->b∉ch->s.heap.get? b=some o->H b=none->∃sl,h'.get? b=some { o with slots:=sl }) (free:∀b o,b∉ch->s.heap.get? b=some o->H b=none->H' b=none)
  (there:∀b o,b∉ch->s.heap.get? b=some o->∃o',h'.get? b=some o')
  (gb:∀b xs,H b=some (.tup xs)->H' b=some (.tup xs)) (fj:∀b o u,H b=some (.frz o u)->H' b=some (.frz o u)) (fR:∀b ps,H b=some (.tbl ps)->∃more,H' b=some (.tbl (ps++more)))
  (ns:∀m,s.heap.Ns X.env.locals m->h'.Ns X.env.locals m) (bb:fK X.prog X.w H' h') (hg:AllBare g') :
  Inv X pins σ H' { s with heap:=h',gens:=g',drawn:=d',toks:=t' }:=by
 have Oi:∀b o,X.s₀.heap.get? b=some o->b≠X.env.locals:=fun b o e=>Jw (Jt (Jj e) I.ok.above)
 have HI:∀b o,X.s₀.heap.get? b=some o->b∉X.ex->b∉ch:=fun b o e hx hb=>by
  rcases(o8 b hb).1 with z|z
  ·exact hx z
  ·exact absurd (Jt (Jj e) z) (U7 _)
 have cellK:∀x c,X.env.cells.lookup x=some c->∀v,s.heap.IsCell c v->h'.IsCell c v:=fun x c e v ⟨o,ho,hd⟩=>by
  have E3:c∉ch:=fun z=>(o8 c z).2.2.1 x c e rfl
  by_cases hc:c∈X.fs
  ·obtain⟨sl,q⟩:=slot c o (I.BW x c e) hc E3 ho (I.freeC x c e)
   exact⟨_,q,hd⟩
  ·exact⟨o,keep c o (I.BW x c e) hc E3 ho (I.freeC x c e),hd⟩
 refine⟨I.ok,I.os,hg,⟨fun b o e n hb hx =>?_,fun b o e n hb hx =>?_,fun b o e n hx =>?_,fun b o e hx =>?_,fun b xs e=>gb b xs (I.base.gb b xs e),fun b o xs e=>fj b o xs (I.base.fj b o xs e),fun b ps e =>?_⟩,?_,fun x c e =>?_,?_,fun x c e =>?_,fun p hp =>?_,bb,I.len⟩
 ·exact keep b o (Oi b o e) hb (HI b o e hx) (I.base.keep b o e n hb hx) (I.base.free b o e n hx)
 ·obtain⟨sl,e1⟩:=I.base.slot b o e n hb hx
  obtain⟨sl',e2⟩:=slot b _ (Oi b o e) hb (HI b o e hx) e1 (I.base.free b o e n hx)
  exact⟨sl',e2⟩
 ·obtain⟨o',e1⟩:=I.base.there b o e hx
  exact free b o' (HI b o e hx) e1 (I.base.free b o e n hx)
 ·obtain⟨o',e1⟩:=I.base.there b o e hx
  exact there b o' (HI b o e hx) e1
 ·obtain⟨m1,e1⟩:=I.base.fR b ps e
  obtain⟨m2,e2⟩:=fR b _ e1
  exact⟨m1++m2,by rw[e2,Array.append_assoc]⟩
 ·obtain⟨m,hn,hl⟩:=I.loc
  refine⟨m,ns m hn,fun i x v e1 e2 e3 =>?_⟩
  obtain⟨u,r,l⟩:=hl i x v e1 e2 e3
  refine⟨u,r,?_⟩
  rcases l with l|⟨k,c,e,z⟩
  ·exact .inl l
  ·exact .inr ⟨k,c,e,cellK x c e _ z⟩
 ·obtain⟨v,z⟩:=I.cell x c e
  exact⟨v,cellK x c e v z⟩
 ·obtain⟨m,⟨o,_,_,ho,_⟩,_⟩:=I.loc
  exact free _ o (fun z=>(o8 _ z).2.1 rfl) ho I.free
 ·obtain⟨v,o,ho,hd⟩:=I.cell x c e
  exact free c o (fun z=>(o8 c z).2.2.1 x c e rfl) ho (I.freeC x c e)
 ·obtain⟨e,n,ne,nf,d⟩:=I.pin p hp
  have E3:p.1∉ch:=fun z=>(o8 p.1 z).2.2.2 p hp rfl
  exact⟨keep p.1 p.2 ne nf E3 e n,free p.1 p.2 E3 e n,ne,nf,d⟩
theorem Inv.un {t':Nat}(I:Inv X pins σ H s)(u:Un X.fs [] H H' s.heap h')(bb:fK X.prog X.w H' h'):Inv X pins σ H' { s with heap:=h',toks:=t' }:=by
 obtain⟨m,⟨o,es,ep,ho,r⟩,_⟩:=id I.loc
 obtain⟨sl,hL⟩:=u.any ho I.free (by simp)
 exact I.step (g':=s.gens) (d':=s.drawn) (ch:=[]) (fun _ z=>nomatch z) (fun b o _ hb _ e n=>u.keep b o e n hb (by simp)) (fun b o _ hb _ e n=>u.slot b o e n hb (by simp)) (fun b o _ e n=>u.free b o e n (by simp)) (fun b o _ e=>u.there b o e (by simp)) u.gb u.fj u.fR (fun m' hm=>by
  obtain⟨o',es',ep',ho',r'⟩:=hm
  rw[ho] at ho';cases ho'
  exact⟨_,es',ep',hL,r'⟩) bb I.bare
theorem Inv.call {g':Array GenState}{t':Nat}{d':Drawn}{ch:List Addr}(I:Inv X pins σ H s)(u:Un (nq X.stack) ch H H' s.heap h')(bb:fK X.prog X.w H' h')(hg:AllBare g')
  (o8:∀b∈ch,(b∈X.ex∨X.s₀.heap.objs.size<=b)/\b≠X.env.locals/\(∀x c,X.env.cells.lookup x=some c->c≠b)/\∀p∈X.pn++pins,p.1≠b) :
  Inv X pins σ H' { s with heap:=h',gens:=g',drawn:=d',toks:=t' }:=by
 obtain⟨m,⟨o,es,ep,ho,r⟩,_⟩:=id I.loc
 obtain⟨sl,hL⟩:=u.any ho I.free fun z=>(o8 _ z).2.1 rfl
 exact I.step (ch:=ch) o8 (fun b o hL hb hc e n=>u.keep b o e n (fun z=>(Uh.mp (I.oK b z)).elim hL hb) hc) (fun b o _ _ hc e n=>u.any e n hc) (fun b o hc e n=>u.free b o e n hc) (fun b o hc e=>u.there b o e hc) u.gb u.fj u.fR (fun m' hm=>by
  obtain⟨o',es',ep',ho',r'⟩:=hm
  rw[ho] at ho';cases ho'
  exact⟨_,es',ep',hL,r'⟩) bb hg
theorem Inv.turned {t':Nat}{it:Addr}(I:Inv X pins σ H s)(k:∀b o,b≠it->s.heap.get? b=some o->h'.get? b=some o)(hn:H it=none)(hL:it≠X.env.locals)
  (h1:it∈X.ex∨X.s₀.heap.objs.size<=it) (h2:∀x c,X.env.cells.lookup x=some c->c≠it) (h3:∀p∈X.pn++pins,p.1≠it):Inv X pins σ H { s with heap:=h',toks:=t' }:=by
 have NR:∀b u,H b=some u->b≠it:=fun b u e z=>by rw[z,hn] at e;cases e
 refine I.step (g':=s.gens) (d':=s.drawn) (ch:=[it]) (fun b hb =>?_) (fun b o _ _ hc e _=>k b o (fun z=>hc (by simp[z])) e) (fun b o _ _ hc e _=>⟨o.slots,k b o (fun z=>hc (by simp[z])) e⟩) (fun _ _ _ _ n=>n)
  (fun b o hc e=>⟨o,k b o (fun z=>hc (by simp[z])) e⟩) (fun _ _ e=>e) (fun _ _ _ e=>e) (fun b ps e=>⟨#[],by rw[e];simp⟩) (fun m hm =>?_) (fun b u e =>?_) I.bare
 ·have e:b=it:=by simpa using hb
  subst e
  exact⟨h1,hL,h2,h3⟩
 ·obtain⟨o,es,ep,ho,r⟩:=hm
  exact⟨o,es,ep,k _ o (Ne.symm hL) ho,r⟩
 ·refine(I.bb b u e).lW (fun c v hc q=>k c v ?_ q) (fun _ q=>q) fun _ _ q=>q
  rcases hc with z|z
  ·rw[z];exact NR b u e
  ·exact NR c _ z
theorem Inv.tok (I:Inv X pins σ H s)(t:Nat):Inv X pins σ H { s with toks:=t }:=I.un (h':=s.heap) (t':=t) Un.refl I.bb
theorem Inv.kept {t':Nat}(I:Inv X pins σ H s)(k:∀b u,s.heap.get? b=some u->h'.get? b=some u):Inv X pins σ H { s with heap:=h',toks:=t' }:=I.un (Un.kept k) (I.bb.kept k)
theorem Inv.laid {a:Addr}{o:HO}{t':Nat}(I:Inv X pins σ H s)(k:∀b u,s.heap.get? b=some u->h'.get? b=some u)(hp:s.heap.objs.size<=a)(new:bF X.prog X.w (upd H a o) h' a o):
  Inv X pins σ (upd H a o) { s with heap:=h',toks:=t' }:=I.un (Un.laid k hp (I.bb.fresh hp)) (I.bb.laid k hp new)
theorem Inv.write {x e:Addr}{o:HO}{t':Nat}(I:Inv X pins σ H s)(mu:Ey (H x))(he:e=x∨H e=some (.own x))(k:∀b u,b≠e->s.heap.get? b=some u->h'.get? b=some u)(DY:∃u,h'.get? e=some u)
  (new:bF X.prog X.w (upd H x o) h' x o):Inv X pins σ (upd H x o) { s with heap:=h',toks:=t' }:=I.un (Un.write mu he k DY) (I.bb.write mu he k DY new)
theorem Inv.weak {σ':List (Option V)}(I:Inv X pins σ H s)(hl: σ'.length = σ.length)(w:∀(i:Nat) v,σ'[i]? = some (some v) -> σ[i]? = some (some v)):Inv X pins σ' H s:=
 ⟨I.ok,I.os,I.bare,I.base,let ⟨m,hn,CU⟩:=I.loc; ⟨m,hn,fun i x v e1 e2 e3=>CU i x v e1 (w i v e2) e3⟩,I.cell,I.free,I.freeC,I.pin,I.bb,hl.trans I.len⟩
theorem Inv.jZ {Bz:List (Addr×Obj)}(I:Inv X pins σ H s)(h:∀p∈Bz,s.heap.get? p.1=some p.2/\H p.1=none/\p.1≠X.env.locals/\p.1∉X.fs/\∀v,p.2.data ≠ .cell v):Inv X Bz σ H s:=
 ⟨I.ok,I.os,I.bare,I.base,I.loc,I.cell,I.free,I.freeC,fun p hp=>(Jh.mp hp).elim (fun z=>I.pin p (Uc _ z)) (h p),I.bb,I.len⟩
theorem qk {N:List Str}(hN:N.Nodup){i j:Nat}{x:Str}(a:N[i]? = some x)(b:N[j]? = some x):i=j:=by
 obtain⟨h1,e1⟩:=Jx.mp a
 obtain⟨h2,e2⟩:=Jx.mp b
 exact(List.getElem_inj hN).mp (e1.trans e2.symm)
theorem i5 {M:Model}{A:Around}{E:Value->Shared->Prop}{i:Nat}{x:Str}{v:V}{u:Value}{Q:Unit->Shared->Prop}(I:Inv X pins σ H s)(hN:X.N.Nodup)(hi:X.N[i]? = some x)(hx:Loc X.env.scope x)(r:RelV v u)
  (h:∀s',Inv X pins (σ.set i (some v)) H s'->(∃a,Y0 a s.heap s'.heap/\(a=X.env.locals∨X.env.cells.lookup x=some a))->Q () s') (hf:X.fn x=true∨X.env.scope.names.lookup x=some .local:=by first|exact .inl rfl|exact .inr rfl|assumption):wpAny M A (storeName X.env x u) Q E s:=by
 obtain⟨m,hn,hl⟩:=id I.loc
 have Ll:(X.env.scope.kind == .class||(X.env.scope.kind == .module&&X.env.locals != X.env.globals))=false:=by rw[I.ok.kind];rfl
 have NY:i < σ.length:=by rw[I.len];exact(Jx.mp hi).1
 have BW:=I.BW
 have tracked:∀{a:Addr} {h':Heap},(∃o,s.heap.get? a=some o/\H a=none)->Y0 a s.heap h'->fK X.prog X.w H h':=fun{a h'} ha hs b ob e=>by
  obtain⟨_,_,sW⟩:=ha
  refine(I.bb b ob e).lW (fun c w' hc q=>(hs.2 c ?_).trans q) (fun _ q=>q) fun _ _ q=>q
  rintro rfl
  rcases hc with rfl|hc
  ·rw[sW] at e;cases e
  ·rw[sW] at hc;cases hc
 rcases hx with hk|hk
 ·refine wpAny_storeName_local hk hn (fun h' hn' hs =>?_) Ll
  obtain⟨oL,_,_,hoL,_⟩:=id hn
  refine h _ ⟨I.ok,I.os,I.bare,⟨fun b o e n hb hx =>?_,fun b o e n hb hx =>?_,I.base.free,fun b o e hx =>?_,I.base.gb,I.base.fj,I.base.fR⟩,⟨_,hn',fun j y v' e1 e2 e3 =>?_⟩,fun y c e =>?_,I.free,I.freeC,fun p hp =>?_,tracked ⟨oL,hoL,I.free⟩ hs,by simpa using I.len⟩ ⟨_,hs,.inl rfl⟩
  ·exact(hs.2 b (Jw (Jt (Jj e) I.ok.above))).trans (I.base.keep b o e n hb hx)
  ·obtain⟨sl,e1⟩:=I.base.slot b o e n hb hx
   exact⟨sl,(hs.2 b (Jw (Jt (Jj e) I.ok.above))).trans e1⟩
  ·obtain⟨o',e1⟩:=I.base.there b o e hx
   exact⟨o',(hs.2 b (Jw (Jt (Jj e) I.ok.above))).trans e1⟩
  ·by_cases hj:j=i
   ·subst hj
    rw[hi] at e1;cases e1
    rw[List.getElem?_set_self NY] at e2
    cases e2
    exact⟨u,r,.inl ⟨hk,by simp⟩⟩
   ·rw[List.getElem?_set_ne (Ne.symm hj)] at e2
    obtain⟨u',r',q⟩:=hl j y v' e1 e2 e3
    refine⟨u',r',?_⟩
    rcases q with ⟨k,e⟩|⟨k,c,e,z⟩
    ·refine .inl ⟨k,?_⟩
     have:y≠x:=fun e=>hj (qk hN e1 (e▸hi))
     simp[this,e]
    ·exact .inr ⟨k,c,e,z.sameBut hs (BW y c e)⟩
  ·obtain⟨w',z⟩:=I.cell y c e
   exact⟨w',z.sameBut hs (BW y c e)⟩
  ·obtain⟨e,n,ne,nf,d⟩:=I.pin p hp
   exact⟨(hs.2 p.1 ne).trans e,n,ne,nf,d⟩
 ·have IW:X.fn x=true:=by
   rcases hf with z|z
   ·exact z
   ·rw[z] at hk;cases hk
  obtain⟨c,hc⟩:=I.ok.has x (.inl hk)
  obtain⟨w',z⟩:=I.cell x c hc
  refine wpAny_storeName_cell I.ok.kind hk hc z (fun h' Dv hs =>?_)
  obtain⟨oc,hoc,hocd⟩:=id z
  refine h { s with heap:=h' } ⟨I.ok,I.os,I.bare,⟨fun b o e n hb hx =>?_,fun b o e n hb hx =>?_,I.base.free,fun b o e hx =>?_,I.base.gb,I.base.fj,I.base.fR⟩,⟨m,hn.sameBut hs (Ne.symm (BW x c hc)),fun j y v' e1 e2 e3 =>?_⟩,fun y c' e =>?_,I.free,I.freeC,fun p hp =>?_,tracked ⟨oc,hoc,I.freeC x c hc⟩ hs,by simpa using I.len⟩ ⟨c,hs,.inr hc⟩
  ·exact(hs.2 b (Jw (Jt (Jj e) (I.ok.cab x c IW hc)))).trans (I.base.keep b o e n hb hx)
  ·obtain⟨sl,e1⟩:=I.base.slot b o e n hb hx
   exact⟨sl,(hs.2 b (Jw (Jt (Jj e) (I.ok.cab x c IW hc)))).trans e1⟩
  ·obtain⟨o',e1⟩:=I.base.there b o e hx
   exact⟨o',(hs.2 b (Jw (Jt (Jj e) (I.ok.cab x c IW hc)))).trans e1⟩
  ·by_cases hj:j=i
   ·subst hj
    rw[hi] at e1;cases e1
    rw[List.getElem?_set_self NY] at e2
    cases e2
    exact⟨u,r,.inr ⟨.inl hk,c,hc,Dv⟩⟩
   ·rw[List.getElem?_set_ne (Ne.symm hj)] at e2
    obtain⟨u',r',q⟩:=hl j y v' e1 e2 e3
    refine⟨u',r',?_⟩
    rcases q with q|⟨k,c',e,z'⟩
    ·exact .inl q
    ·refine .inr ⟨k,c',e,z'.sameBut hs ?_⟩
     rintro rfl
     exact hj (qk hN e1 (I.ok.inj _ _ _ e hc▸hi))
  ·by_cases hcc:c'=c
   ·subst hcc;exact⟨_,Dv⟩
   ·obtain⟨w2,z2⟩:=I.cell y c' e
    exact⟨w2,z2.sameBut hs hcc⟩
  ·obtain⟨e,n,ne,nf,d⟩:=I.pin p hp
   refine⟨(hs.2 p.1 ?_).trans e,n,ne,nf,d⟩
   intro q
   rw[q,hoc] at e
   have q':oc=p.2:=Option.some.inj e
   exact d w' (by rw[<-q'];exact hocd)
theorem iL {M:Model}{A:Around}{E:Value->Shared->Prop}{i:Nat}{x:Str}{v:V}{u:Value}{Q:Unit->Shared->Prop}(I:Inv X pins σ H s)(hN:X.N.Nodup)(hi:X.N[i]? = some x)(hx:Loc X.env.scope x)(r:RelV v u)
  (h:∀s',Inv X pins (σ.set i (some v)) H s'->Q () s') (hf:X.fn x=true∨X.env.scope.names.lookup x=some .local:=by first|exact .inl rfl|exact .inr rfl|assumption):wpAny M A (storeName X.env x u) Q E s:=
 i5 I hN hi hx r (fun s' I' _=>h s' I') hf
theorem Inv.tw {s':Shared}{ch:List Addr}(I:Inv X pins σ H s)(ho:s'.os=s.os)(u:Un (nq X.stack) ch H H' s.heap s'.heap)(bb:fK X.prog X.w H' s'.heap)(hg:AllBare s'.gens)
  (o8:∀b∈ch,(b∈X.ex∨X.s₀.heap.objs.size<=b)/\b≠X.env.locals/\(∀x c,X.env.cells.lookup x=some c->c≠b)/\∀p∈X.pn++pins,p.1≠b):Inv X pins σ H' s':=by
 obtain⟨h',g',d',t',o'⟩:=s'
 have e:o'=s.os:=ho
 subst e
 exact I.call (g':=g') (t':=t') (d':=d') u bb hg o8
end
abbrev XK:=Value->Option Addr->Hp->Prop
noncomputable abbrev St:=List (Option V)
abbrev VK:=V->Hp->Prop
abbrev TE:=St->Hp->VK->Prop
abbrev TT:=St->Hp->(Bool->Hp->Prop)->Prop
abbrev TA:=St->Hp->(List V->Hp->Prop)->Prop
structure Ends where
 nx:St->Hp->Prop
 rt:VK
 bk:St->Hp->Prop:=fun _ _=>False
 ct:St->Hp->Prop:=fun _ _=>False
abbrev TS:=Ends->St->Hp->Prop
def EP (X:Cx)(pins:List (Addr×Obj))(σ:St)(Q:VK)(u:Value)(s':Shared):Prop:=cq fun v H'=>Inv X pins σ H' s'/\RelV v u/\Q v H'
def TP (X:Cx)(pins:List (Addr×Obj))(σ:St)(Q:Bool->Hp->Prop)(b:Bool)(s':Shared):Prop:=∃H',Inv X pins σ H' s'/\Q b H'
def AP (X:Cx)(pins:List (Addr×Obj))(σ:St)(Q:List V->Hp->Prop)(us:List Value)(s':Shared):Prop:=cq fun vs H'=>Inv X pins σ H' s'/\Vals vs us/\Q vs H'
instance Lq {X:Cx} {pins:List (Addr×Obj)} {σ:St} {Q:VK} {u:Value} {s':Shared}:ae (EP X pins σ Q u s') (fun G=>∀v H',Inv X pins σ H' s'->RelV v u->Q v H'->G):=⟨fun⟨v,H',a,b,c⟩ _ k=>k v H' a b c⟩
instance Mw {X:Cx} {pins:List (Addr×Obj)} {σ:St} {Q:Bool->Hp->Prop} {b:Bool} {s':Shared}:ae (TP X pins σ Q b s') (fun G=>∀H',Inv X pins σ H' s'->Q b H'->G):=⟨fun⟨H',a,c⟩ _ k=>k H' a c⟩
instance JM {X:Cx} {pins:List (Addr×Obj)} {σ:St} {Q:List V->Hp->Prop} {us:List Value} {s':Shared}:ae (AP X pins σ Q us s') (fun G=>∀vs H',Inv X pins σ H' s'->Vals vs us->Q vs H'->G):=⟨fun⟨v,H',a,b,c⟩ _ k=>k v H' a b c⟩
def SP (X:Cx)(pins:List (Addr×Obj))(D:Ends)(f:Flow)(s':Shared):Prop:=
 match f with
 | .next=>cq fun σ' H'=>Inv X pins σ' H' s'/\D.nx σ' H'
 | .brk=>cq fun σ' H'=>Inv X pins σ' H' s'/\D.bk σ' H'
 | .cont=>cq fun σ' H'=>Inv X pins σ' H' s'/\D.ct σ' H'
 | .ret u=>gO fun v σ' H'=>Inv X pins σ' H' s'/\RelV v u/\D.rt v H'
def PE (X:Cx)(e:Expr)(t:TE):Prop:=
 ∀ ⦃pins:List (Addr×Obj)⦄ (s:Shared) (σ:St) (H:Hp) (Q:VK),Inv X pins σ H s->t σ H Q->wpAny (model X.prog X.w) X.A (eval e X.env) (EP X pins σ Q) X.xe s
def PT (X:Cx)(e:Expr)(t:TT):Prop:=
 ∀ ⦃pins:List (Addr×Obj)⦄ (s:Shared) (σ:St) (H:Hp) (Q:Bool->Hp->Prop),Inv X pins σ H s->t σ H Q->wpAny (model X.prog X.w) X.A (isTrue e X.env (eval e X.env)) (TP X pins σ Q) X.xe s
def PW (X:Cx)(e:Expr)(t:TT):Prop:=
 ∀ ⦃whole:Sem Value⦄ ⦃pins:List (Addr×Obj)⦄ (s:Shared) (σ:St) (H:Hp) (Q:Bool->Hp->Prop),Inv X pins σ H s->t σ H Q->wpAny (model X.prog X.w) X.A (isTrue e X.env whole) (TP X pins σ Q) X.xe s
theorem PW.pt {X:Cx}{e:Expr}{t:TT}(h:PW X e t):PT X e t:=fun pins s σ H Q I q=>h s σ H Q I q
def PA (X:Cx)(es:List Expr)(t:TA):Prop:=
 ∀ ⦃pos:Pos⦄ ⦃pins:List (Addr×Obj)⦄ (s:Shared) (σ:St) (H:Hp) (Q:List V->Hp->Prop),Inv X pins σ H s->t σ H Q->wpAny (model X.prog X.w) X.A (spliced (backTo pos (starEach es X.env))) (AP X pins σ Q) X.xe s
def PS (X:Cx)(st:Stmt)(t:TS):Prop:=
 ∀ ⦃pins:List (Addr×Obj)⦄ (s:Shared) (σ:St) (H:Hp) (D:Ends),Inv X pins σ H s->t D σ H->wpAny (model X.prog X.w) X.A (exec st X.env) (SP X pins D) X.xe s
def tH (X:Cx)(st:List Stmt)(t:TS):Prop:=
 ∀ ⦃pins:List (Addr×Obj)⦄ (s:Shared) (σ:St) (H:Hp) (D:Ends),Inv X pins σ H s->t D σ H->wpAny (model X.prog X.w) X.A (execs st X.env) (SP X pins D) X.xe s
theorem aZ {α:Type}{t:Sem α}{Q Q': α->Shared->Prop}{M:Model}{A:Around}{E:Value->Shared->Prop}{s:Shared}(h:wpAny M A t Q E s)(hQ:∀a s,Q a s->Q' a s):wpAny M A t Q' E s:=wpAny_mono h hQ fun _ _ x=>x
section
variable {X:Cx}
def zZ (i:Nat):TE:=fun σ H Q=>∃v,σ[i]? = some (some v)/\Q v H
def tC (v:V):TE:=fun _ H Q=>Q v H
theorem Dm {i:Nat}{x:Str}{pos:Pos}(hN:X.N[i]? = some x)(hv:FF X.env.scope x)(hd:(x==("__debug__" : Str))=false:=by decide)(pU:(x==("__classdict__" : Str))=false:=by decide):PE X (.Name x pos) (zZ i):=by
 intro pins s σ H Q I h
 obtain⟨v,e,h⟩:=h
 obtain⟨m,hn,hl⟩:=I.loc
 obtain⟨u,r,l⟩:=hl i x v hN e hv
 have fin:EP X pins σ Q u s:=⟨v,H,I,r,h⟩
 rcases l with ⟨hk,hm⟩|⟨hk,c,hc,hcell⟩
 ·exact wpAny_Name (wpAny_loadName_local I.ok.kind hk hn hm fin) hd
 ·rcases hk with hk|hk
  ·exact wpAny_Name (wpAny_loadName_cell I.ok.kind hk hc hcell fin) hd
  ·exact wpAny_Name (wpAny_loadName_free I.ok.kind hk hc hcell fin pU) hd
theorem ao {i j pos}:PE X (.Constant (.int i) j pos) (tC (.int i)):=fun _ _ _ H _ I h=>wpAny_Constant_int ⟨.int i,H,I.tok _,⟨_,rfl⟩,h⟩
theorem dk {b j pos}:PE X (.Constant (.bool b) j pos) (tC (.bl b)):=fun _ _ _ H _ I h=>Constant_bool ⟨.bl b,H,I,rfl,h⟩
theorem e7 {j pos}:PE X (.Constant .none j pos) (tC .non):=fun _ _ _ H _ I h=>Constant_none ⟨.non,H,I,rfl,h⟩
theorem bu {x j pos}:PE X (.Constant (.str x) j pos) (tC (.str x)):=fun _ _ _ H _ I h=>Calls.Constant_str ⟨.str x,H,I.tok _,⟨_,rfl⟩,h⟩
def Gl (X:Cx)(x:Str):Prop:=X.env.kindOf x=some .globalImplicit
theorem tX {E:Value->Shared->Prop}{pins:List (Addr×Obj)}{s:Shared}{σ:St}{H:Hp}{x:Str}{u:Value}{pos:Pos}{Q:Value->Shared->Prop}(I:Inv X pins σ H s)(hg:Gl X x)(hm:X.mg x=some u)(h:Q u s)
  (hd:(x==("__debug__" : Str))=false:=by decide):wpAny (model X.prog X.w) X.A (eval (.Name x pos) X.env) Q E s:=
 Calls.Name_function_global I.ok.kind hg (Calls.loadGlobal_global (by rw[I.ok.glob];exact I.mod.glob.keeps I.bk) hm h) hd
theorem gr {E:Value->Shared->Prop}{pins:List (Addr×Obj)}{s:Shared}{σ:St}{H:Hp}{x:Str}{u:Value}{pos:Pos}{Q:Value->Shared->Prop}(I:Inv X pins σ H s)(hg:Gl X x)(hm:X.mg x=none)(hv:bootBuiltins x=some u)(h:Q u s)
  (hn:x ≠ "__name__":=by decide) (hd:(x==("__debug__" : Str))=false:=by decide):wpAny (model X.prog X.w) X.A (eval (.Name x pos) X.env) Q E s:=by
 obtain⟨mb,h1,h2⟩:=I.mod.blt
 exact Calls.Name_function_global I.ok.kind hg (Calls.loadGlobal_builtin (by rw[I.ok.glob];exact I.mod.glob.keeps I.bk) hm (by rw[I.ok.blt];exact h1.keeps I.bk) ((h2 x hn).trans hv) h) hd
theorem sO {x:Str}{v:V}{u:Value}{pos:Pos}(hg:Gl X x)(hm:X.mg x=some u)(r:RelV v u)(hd:(x==("__debug__" : Str))=false:=by decide):PE X (.Name x pos) (tC v):=
 fun _ _ _ H _ I h=>tX I hg hm ⟨v,H,I,r,h⟩ hd
theorem cZ {x:Str}{v:V}{u:Value}{pos:Pos}(hg:Gl X x)(hm:X.mg x=none)(hv:bootBuiltins x=some u)(r:RelV v u)(hn:x ≠ "__name__":=by decide)(hd:(x==("__debug__" : Str))=false:=by decide):PE X (.Name x pos) (tC v):=
 fun _ _ _ H _ I h=>gr I hg hm hv ⟨v,H,I,r,h⟩ hn hd
variable {a b:Expr}{ta tb:TE}{pos:Pos}
def PC (X:Cx)(op:CmpOp)(a b:Expr)(t:TE):Prop:=
 ∀ ⦃pins:List (Addr×Obj)⦄ (s:Shared) (σ:St) (H:Hp) (Q:VK),Inv X pins σ H s->t σ H Q ->
  wpAny (model X.prog X.w) X.A (eval a X.env) (fun v s₁=>wpAny (model X.prog X.w) X.A (eval b X.env) (fun u s₂=>wpAny (model X.prog X.w) X.A (compareOp op v u) (EP X pins σ Q) X.xe s₂) X.xe s₁) X.xe s
def tB (t:TE):TT:=fun σ H Q=>t σ H fun x H1=>∃c,x = .bl c/\Q c H1
theorem nG {op:CmpOp}{t:TE}(h:PC X op a b t)(h1:behindInMarks op b=false:=by first|exact nobehind _ (by decide) (by decide)|rfl):PE X (.Compare a [op] [b] pos) t:=fun pins s σ H Q I hw=>wpAny_Compare1 (h s σ H Q I hw) h1
theorem q5 {op:CmpOp}{t:TE}(h:PC X op a b t)(h1:behindInMarks op b=false:=by first|exact nobehind _ (by decide) (by decide)|rfl):PT X (.Compare a [op] [b] pos) (tB t):=by
 intro pins s σ H Q I hw
 refine wpAny_isTrue_Compare1 (aZ (h s σ H _ I hw) fun v s1 h1=>aZ h1 fun u s2 h2=>aZ h2 fun c s3 hz_=>ae.el hz_ _ fun x H1 I1 r1 q1 =>?_) h1
 obtain⟨d,rfl,q⟩:=q1
 cases r1
 exact wpAny_truthy_bool ⟨H1,I1,q⟩
theorem cH {e:Expr}{t:TE}(h:PE X e t)(he:∀whole,isTrue e X.env whole=(do let v <-whole;standAt e.pos;holding [v] (truthy v)):=by intro _;rfl):PT X e (tB t):=by
 intro pins s σ H Q I hw
 refine isTrue_plain (aZ (h s σ H _ I hw) fun v s1 hz_=>ae.el hz_ _ fun x H1 I1 r1 q1 =>?_) (he _)
 obtain⟨d,rfl,q⟩:=q1
 cases r1
 exact wpAny_truthy_bool ⟨H1,I1,q⟩
variable {tA Ib:TT}{rest:List Expr}
def Iw (t u:TT):TT:=fun σ H Q=>t σ H fun c H1=>if c=true then u σ H1 Q else Q false H1
def PJ (t u:TT):TT:=fun σ H Q=>t σ H fun c H1=>if c=true then Q true H1 else u σ H1 Q
def B3 (t:TT):TT:=fun σ H Q=>t σ H fun c H1=>Q (!c) H1
theorem gI (ha:PT X a tA):PW X (.BoolOp .And [a] pos) tA:=by
 intro wh pins s σ H Q I h
 refine isTrue_and (aZ (ha s σ H Q I h) fun c s1 e =>?_)
 cases c with
 | true=>exact isTrue_and_nil e
 | false=>exact e
theorem gh (ha:PT X a tA):PW X (.BoolOp .Or [a] pos) tA:=by
 intro wh pins s σ H Q I h
 refine isTrue_or (aZ (ha s σ H Q I h) fun c s1 e =>?_)
 cases c with
 | false=>exact isTrue_or_nil e
 | true=>exact e
theorem iw (ha:PT X a tA)(hb:PW X (.BoolOp .And (b::rest) pos) Ib):PW X (.BoolOp .And (a::b::rest) pos) (Iw tA Ib):=by
 intro wh pins s σ H Q I h
 refine isTrue_and (aZ (ha s σ H _ I h) fun c s1 hz_ =>?_)
 refine ae.el hz_ _ ?_
 clear hz_
 rintro H1 I1 q1
 cases c with
 | true=>exact hb s1 σ H1 Q I1 q1
 | false=>exact⟨H1,I1,q1⟩
theorem fJ (ha:PT X a tA)(hb:PW X (.BoolOp .Or (b::rest) pos) Ib):PW X (.BoolOp .Or (a::b::rest) pos) (PJ tA Ib):=by
 intro wh pins s σ H Q I h
 refine isTrue_or (aZ (ha s σ H _ I h) fun c s1 hz_ =>?_)
 refine ae.el hz_ _ ?_
 clear hz_
 rintro H1 I1 q1
 cases c with
 | true=>exact⟨H1,I1,q1⟩
 | false=>exact hb s1 σ H1 Q I1 q1
theorem dU (ha:PT X a tA):PT X (.UnaryOp .Not a pos) (B3 tA):=by
 intro pins s σ H Q I h
 exact isTrue_not (ha s σ H (fun c H1=>Q (!c) H1) I h)
def ER (ta tb:TE):TE:=fun σ H Q=>ta σ H fun x H1=>∃c,x = .bl c/\if c=true then tb σ H1 Q else Q (.bl false) H1
def Hh (ta:TE):TE:=fun σ H Q=>ta σ H fun x H1=>∃c,x = .bl c/\Q (.bl (!c)) H1
theorem oS {op}{t:TE}(h:PE X a t):PE X (.BoolOp op [a] pos) t:=fun pins s σ H Q I hw=>BoolOp_one (h s σ H Q I hw)
theorem iX (ha:PE X a ta)(hb:PE X (.BoolOp .And (b::rest) pos) tb):PE X (.BoolOp .And (a::b::rest) pos) (ER ta tb):=by
 intro pins s σ H Q I h
 refine BoolOp_and (aZ (ha s σ H _ I h) fun v s1 hz_ =>?_)
 refine ae.el hz_ _ ?_
 clear hz_
 rintro x H1 I1 r1 q1
 obtain⟨c,rfl,q1⟩:=q1
 cases r1
 refine wpAny_truthy_bool ?_
 cases c with
 | true=>exact hb s1 σ H1 Q I1 q1
 | false=>exact⟨.bl false,H1,I1,rfl,q1⟩
theorem DT (ha:PE X a ta):PE X (.UnaryOp .Not a pos) (Hh ta):=by
 intro pins s σ H Q I h
 refine UnaryOp_ (aZ (ha s σ H _ I h) fun v s1 hz_ =>?_)
 refine ae.el hz_ _ ?_
 clear hz_
 rintro x H1 I1 r1 q1
 obtain⟨c,rfl,q1⟩:=q1
 cases r1
 exact not_of (wpAny_truthy_bool ⟨.bl (!c),H1,I1,rfl,q1⟩)
def NT (t:TT)(ta tb:TE):TE:=fun σ H Q=>t σ H fun c H1=>if c=true then ta σ H1 Q else tb σ H1 Q
theorem kJ {c:Expr}(hc:PT X c tA)(ha:PE X a ta)(hb:PE X b tb):PE X (.IfExp c a b pos) (NT tA ta tb):=by
 intro pins s σ H Q I h
 refine wpAny_IfExp (aZ (hc s σ H _ I h) fun d s1 hz_ =>?_)
 refine ae.el hz_ _ ?_
 clear hz_
 rintro H1 I1 q1
 cases d with
 | true=>exact ha s1 σ H1 Q I1 q1
 | false=>exact hb s1 σ H1 Q I1 q1
end
def aK (K:Jb)(H:Hp)(a:Addr)(xs:List V):Prop:=
 Rd H a (.lst xs) ∨
  gO fun(o:Obj) (ay:Array Value) (n:Nat)=>K.lookup a=some o/\o.cls = .type "list" /\ o.dict=none/\o.data = .seq ay n/\ay.size<=sizeLine/\Vals xs ay.toList
def fP (K:Jb)(H:Hp)(a:Addr)(xs:List V):Prop:=
 Rd H a (.tup xs) ∨
  gO fun(o:Obj) (ay:Array Value) (n:Nat)=>K.lookup a=some o/\o.cls = .type "tuple" /\ o.data = .seq ay n/\ay.size<=sizeLine/\Vals xs ay.toList
noncomputable def M0:Value->Option V
 | .none=>some .non
 | .bool b=>some (.bl b)
 | .int i _=>some (.int i)
 | .str x _=>some (.str x)
 | .bytes b _=>some (.byt b)
 | .float b _=>some (.flt b)
 | .ref a=>some (.ref a)
 | .type n=>some (.ty n)
 | _=>none
theorem RelV.abs {x:V}{u:Value}(r:RelV x u):M0 u=some x:=by
 cases x with
 | non=>cases r;rfl
 | bl _=>cases r;rfl
 | int _=>obtain⟨t,rfl⟩:=r;rfl
 | str _=>obtain⟨t,rfl⟩:=r;rfl
 | byt _=>obtain⟨t,rfl⟩:=r;rfl
 | flt _=>obtain⟨t,rfl⟩:=r;rfl
 | ref _=>cases r;rfl
 | ty _=>cases r;rfl
theorem RelV.inj {x y:V}{u:Value}(r:RelV x u)(q:RelV y u):x=y:=Option.some.inj (r.abs.symm.trans q.abs)
theorem Vals.inj {xs ys:List V}{us:List Value}(h:Vals xs us)(h':Vals ys us):xs=ys:=by
 induction h generalizing ys with
 | nil=>cases h';rfl
 | cons r t ih=>cases h' with|cons r' t'=>rw[RelV.inj r r',ih t']
section
variable {X:Cx}{pins:List (Addr×Obj)}{σ:St}{H:Hp}{s:Shared}{a:Addr}{xs ys:List V}
theorem aK.of {K:Jb}(h:H a=some (.lst xs)):aK K H a xs := .inl (.inl h)
theorem fP.of {K:Jb}(h:H a=some (.tup xs)):fP K H a xs := .inl (.inl h)
theorem Inv.list (I:Inv X pins σ H s)(h:aK X.K H a xs):∃ay:List Value,Vals xs ay/\PlainL s.heap a ay.toArray/\xs.length<=sizeLine:=by
 rcases h with h|⟨o,ay,n,hk,hc,hd,hs,hz,r⟩
 ·obtain⟨z,ay,n,r,e⟩:=h.ok I.bb
  exact⟨ay,r,⟨_,n,e,rfl,rfl,rfl⟩,z⟩
 ·refine⟨ay.toList,r,⟨o,n,I.oW a o hk,hc,hd,by simpa using hs⟩,?_⟩
  have e:=r.length
  simp only[Jv] at e
  omega
theorem Inv.tuple (I:Inv X pins σ H s)(h:fP X.K H a xs):∃ay:List Value,Vals xs ay/\IsTup s.heap a ay.toArray/\xs.length<=sizeLine:=by
 rcases h with h|⟨o,ay,n,hk,hc,hs,hz,r⟩
 ·obtain⟨z,ay,r,p⟩:=h.ok I.bb
  exact⟨ay,r,p,z⟩
 ·refine⟨ay.toList,r,⟨o,I.oW a o hk,hc,n,by simpa using hs⟩,?_⟩
  have e:=r.length
  simp only[Jv] at e
  omega
theorem Inv.xh (I:Inv X pins σ H s)(h:aK X.K H a xs)(h':aK X.K H a ys):xs=ys:=by
 obtain⟨ay,r,⟨o,n,e,_,_,d⟩,_⟩:=I.list h
 obtain⟨its',r',⟨o',n',e',_,_,d'⟩,_⟩:=I.list h'
 rw[e] at e';cases e'
 rw[d] at d'
 injection d' with d1 _
 have:ay=its':=by simpa using congrArg Array.toList d1
 subst this
 exact r.inj r'
end
noncomputable abbrev Cx.lJ (X:Cx)(E:Value->Shared->Prop):Cx:={ X with xe:=E }
noncomputable abbrev Cx.Dy (X:Cx):Cx:=X.lJ fun _ _=>False
theorem Cx.Ok.lJ {X:Cx}(ok:X.Ok)(E:Value->Shared->Prop):(X.lJ E).Ok:=
 ⟨ok.mod,ok.kind,ok.glob,ok.blt,ok.above,ok.inj,ok.has,ok.cab,ok.hd,ok.frames,ok.stk,ok.exf,ok.bs,ok.bsz,ok.noex,ok.exfs,ok.jv,ok.vV⟩
theorem Cx.Ok.gj {X:Cx}{E:Value->Shared->Prop}(ok:(X.lJ E).Ok):X.Ok:=
 ⟨ok.mod,ok.kind,ok.glob,ok.blt,ok.above,ok.inj,ok.has,ok.cab,ok.hd,ok.frames,ok.stk,ok.exf,ok.bs,ok.bsz,ok.noex,ok.exfs,ok.jv,ok.vV⟩
section
variable {X:Cx}{pins:List (Addr×Obj)}{σ:St}{H:Hp}{s:Shared}{E:Value->Shared->Prop}
theorem Inv.lJ (I:Inv X pins σ H s)(E:Value->Shared->Prop):Inv (X.lJ E) pins σ H s:=⟨I.ok.lJ E,I.os,I.bare,I.base,I.loc,I.cell,I.free,I.freeC,I.pin,I.bb,I.len⟩
theorem Inv.gj (I:Inv (X.lJ E) pins σ H s):Inv X pins σ H s:=⟨I.ok.gj,I.os,I.bare,I.base,I.loc,I.cell,I.free,I.freeC,I.pin,I.bb,I.len⟩
theorem SP.gj {D:Ends}{f:Flow}{s':Shared}(h:SP (X.lJ E) pins D f s'):SP X pins D f s':=by
 cases f with
 | next=>obtain⟨σ',H',I,q⟩:=h;exact⟨σ',H',I.gj,q⟩
 | brk=>obtain⟨σ',H',I,q⟩:=h;exact⟨σ',H',I.gj,q⟩
 | cont=>obtain⟨σ',H',I,q⟩:=h;exact⟨σ',H',I.gj,q⟩
 | ret u=>obtain⟨v,σ',H',I,r,q⟩:=h;exact⟨v,σ',H',I.gj,r,q⟩
theorem tH.Dy {st:List Stmt}{t:TS}(h:tH X.Dy st t):tH X st t:=fun pins s σ H D I hw=>
 wpAny_mono (h s σ H D (I.lJ _) hw) (fun _ _ q=>q.gj) fun _ _ z=>False.elim z
end
section
variable {X:Cx}{st:Stmt}{rest:List Stmt}{t u:TS}{e:Expr}{te:TE}{pos:Pos}
def xp:TS:=fun D σ H=>D.nx σ H
def we (t u:TS):TS:=fun D σ H=>t { D with nx:=u D } σ H
theorem aV:tH X [] xp:=fun _ _ σ H _ I h=>wpAny_execs_nil ⟨σ,H,I,h⟩
theorem ah (h1:PS X st t)(h2:tH X rest u):tH X (st::rest) (we t u):=by
 intro pins s σ H D I h
 refine wpAny_execs_cons (aZ (h1 s σ H { D with nx:=u D } I h) fun f s1 q =>?_)
 cases f with
 | next=>
  obtain⟨σ',H',I',q⟩:=q
  exact h2 s1 σ' H' D I' q
 | ret v=>exact q
 | brk=>exact q
 | cont=>exact q
theorem au (h1:PS X st t):tH X [st] t:=by
 intro pins s σ H D I h
 refine wpAny_execs_cons (aZ (h1 s σ H D I h) fun f s1 q =>?_)
 cases f with
 | next=>exact wpAny_execs_nil q
 | ret v=>exact q
 | brk=>exact q
 | cont=>exact q
theorem Inv.quiet {pins:List (Addr×Obj)}{σ:St}{H:Hp}{s:Shared}(I:Inv X pins σ H s):interactive X.env=false:=by simp[interactive,I.ok.kind]
def E9 (te:TE):TS:=fun D σ H=>te σ H fun _ H1=>D.nx σ H1
theorem gK (he:PE X e te)(hs:swapsWith e none pos.line X.env=pure false:=by rfl):PS X (.Expr e pos) (E9 te):=by
 intro pins s σ H D I h
 exact wpAny_Expr_any (aZ (he s σ H _ I h) fun v s1 hz_=>ae.el hz_ _ fun x H1 I1 r1 q1=>⟨σ,H1,I1,q1⟩) I.quiet hs
def K6 (te:TE):TS:=fun D σ H=>te σ H D.rt
theorem aJ (he:PE X e te):PS X (.Return (some e) pos) (K6 te):=by
 intro pins s σ H D I h
 exact wpAny_Return_some (aZ (he s σ H _ I h) fun v s1 hz_=>ae.el hz_ _ fun x H1 I1 r1 q1=>⟨x,σ,H1,I1,r1,q1⟩)
def g7 (c:TT)(t u:TS):TS:=fun D σ H=>c σ H fun b H1=>if b=true then t D σ H1 else u D σ H1
theorem bS {c:Expr}{a b:List Stmt}{tc:TT}(hc:PT X c tc)(ha:tH X a t)(hb:tH X b u):PS X (.If c a b pos) (g7 tc t u):=by
 intro pins s σ H D I h
 refine wpAny_If (aZ (hc s σ H _ I h) fun d s1 hz_ =>?_)
 refine ae.el hz_ _ ?_
 clear hz_
 rintro H1 I1 q1
 cases d with
 | true=>exact ha s1 σ H1 D I1 q1
 | false=>exact hb s1 σ H1 D I1 q1
end
abbrev TG:=V->St->Hp->(St->Hp->Prop)->Prop
abbrev uz:=List V->St->Hp->(St->Hp->Prop)->Prop
def PG (X:Cx)(target:Expr)(t:TG):Prop:=
 ∀ ⦃pins:List (Addr×Obj)⦄ (s:Shared) (σ:St) (H:Hp) (v:V) (u:Value) (Q:St->Hp->Prop),Inv X pins σ H s->RelV v u->t v σ H Q ->
  wpAny (model X.prog X.w) X.A (assign target X.env u) (fun _ s'=>cq fun σ' H'=>Inv X pins σ' H' s'/\Q σ' H') X.xe s
def Fj (X:Cx)(ts:List Expr)(t:uz):Prop:=
 ∀ ⦃pins:List (Addr×Obj)⦄ (s:Shared) (σ:St) (H:Hp) (vs:List V) (us:List Value) (Q:St->Hp->Prop),Inv X pins σ H s->Vals vs us->t vs σ H Q ->
  wpAny (model X.prog X.w) X.A (assignInOrder ((assignEach ts X.env).map (·.2)) us) (fun _ s'=>cq fun σ' H'=>Inv X pins σ' H' s'/\Q σ' H') X.xe s
abbrev CI:=V->V->V->Hp->(Hp->Prop)->Prop
def Et (X:Cx)(t:CI):Prop:=
 ∀ ⦃pins:List (Addr×Obj)⦄ (s:Shared) (σ:St) (H:Hp) (o i v:V) (ov iv u:Value) (Q:Hp->Prop),Inv X pins σ H s->RelV o ov->RelV i iv->RelV v u->t o i v H Q ->
  wpAny (model X.prog X.w) X.A (setItem ov iv u) (fun _ s'=>∃H',Inv X pins σ H' s'/\Q H') X.xe s
section
variable {X:Cx}{pos:Pos}
def fM (i:Nat):TG:=fun v σ H Q=>Q (σ.set i (some v)) H
theorem av {i:Nat}{x:Str}(hN:X.N.Nodup)(hi:X.N[i]? = some x)(hx:Loc X.env.scope x)(hf:X.fn x=true∨X.env.scope.names.lookup x=some .local:=by first|exact .inl rfl|exact .inr rfl|assumption):PG X (.Name x pos) (fM i):=by
 intro pins s σ H v u Q I r h
 exact wpAny_assign_Name (iL I hN hi hx r (fun s' I'=>⟨_,H,I',h⟩) hf)
noncomputable def DJ:uz:=fun vs σ H Q=>vs=[]/\Q σ H
noncomputable def xJ (t:TG)(u:uz):uz:=fun vs σ H Q=>cq fun v r=>vs=v::r/\t v σ H fun σ' H'=>u r σ' H' Q
theorem cy:Fj X [] DJ:=by
 intro pins s σ H vs us Q I r h
 obtain⟨e,h⟩:=h
 subst e
 cases r
 exact assignInOrder_nil ⟨σ,H,I,h⟩
theorem aG {e:Expr}{es:List Expr}{t:TG}{u:uz}(h1:PG X e t)(h2:Fj X es u)
  (hs:(assignEach (e::es) X.env).map (·.2)=assign e X.env::(assignEach es X.env).map (·.2):=by rfl):Fj X (e::es) (xJ t u):=by
 intro pins s σ H vs us Q I r h
 obtain⟨v,vr,e1,h⟩:=h
 subst e1
 cases r with
 | cons r rr=>
  rw[hs]
  refine assignInOrder_cons (aZ (h1 s σ H _ _ _ I r h) fun _ s1 hz_ =>?_)
  refine ae.el hz_ _ ?_
  clear hz_
  rintro σ1 H1 I1 q1
  exact h2 s1 σ1 H1 _ _ Q I1 rr q1
def DS (K:Jb)(n:Nat)(t:uz):TG:=fun v σ H Q=>cq fun a xs=>v = .ref a/\fP K H a xs/\xs.length=n/\t xs σ H Q
theorem DK {es:List Expr}{k:Nat}{t:uz}{n:Nat}(hc:X.calm=true)(h:Fj X es t)
  (hn:(assignEach es X.env).length=n:=by rfl) (iy:(assignEach es X.env).findIdx? (·.1)=none:=by rfl):PG X (.Tuple es k pos) (DS X.K n t):=by
 intro pins s σ H v u Q I r hw
 obtain⟨a,xs,e1,hq,hl,hw⟩:=hw
 subst e1
 cases r
 obtain⟨ay,rv,ht,hz⟩:=I.tuple hq
 refine assign_Tuple_tuple (I.ok.hd hc) ht (by simp[hn,<-hl,rv.length]) iy fun h' hx =>?_
 have I1:Inv X pins σ H { s with heap:=h' }:=I.kept (t':=s.toks) fun b o e=>hx b o (Jw (Jj e)) e
 exact h _ σ H xs _ Q I1 (by simpa using rv) hw
def MF (to ti:TE)(t:CI):TG:=fun v σ H Q=>to σ H fun o H1=>ti σ H1 fun i H2=>t o i v H2 fun H3=>Q σ H3
theorem Ce {o i:Expr}{to ti:TE}{t:CI}(ho:PE X o to)(hi:PE X i ti)(hs:Et X t)
  (ha:∀v,assign (.Subscript o i pos) X.env v=(do
   let ov <-holding [v] (eval o X.env)
   let iv <-holding [v,ov] (eval i X.env)
   standAt pos
   holding [v,ov,iv] (setItem ov iv v)
   release [v,ov,iv] []):=by intro _;rfl):PG X (.Subscript o i pos) (MF to ti t):=by
 intro pins s σ H v u Q I r h
 rw[ha]
 refine wpAny_bind (wpAny_holding (aZ (ho s σ H _ I h) fun ov s1 hz_ =>?_))
 refine ae.el hz_ _ ?_
 clear hz_
 rintro x H1 I1 r1 q1
 refine wpAny_bind (wpAny_holding (aZ (hi s1 σ H1 _ I1 q1) fun iv s2 hz_ =>?_))
 refine ae.el hz_ _ ?_
 clear hz_
 rintro y H2 I2 r2 q2
 refine wpAny_bind (wpAny_standAt (wpAny_bind (wpAny_holding (aZ (hs s2 σ H2 x y v ov iv u _ I2 r1 r2 r q2) fun _ s3 hz_ =>?_))))
 refine ae.el hz_ _ ?_
 clear hz_
 rintro H3 I3 q3
 exact wpAny_release ⟨σ,H3,I3,q3⟩
def gC (te:TE)(g:TG):TS:=fun D σ H=>te σ H fun x H1=>g x σ H1 D.nx
theorem ke {tg e:Expr}{te:TE}{g:TG}(he:PE X e te)(hg:PG X tg g)(hs:swapsWithSole [tg] e pos.line X.env=pure false:=by rfl)(hw:swappedStores [tg] e X.env=pure none:=by rfl)
  (h1:(assignEach [tg] X.env).map (·.2)=[assign tg X.env]:=by rfl):PS X (.Assign [tg] e pos) (gC te g):=by
 intro pins s σ H D I h
 refine wpAny_Assign_stores (aZ (he s σ H _ I h) fun v s1 hz_=>ae.el hz_ _ fun x H1 I1 r1 q1 =>?_) hs hw
 rw[h1]
 exact aZ (hg s1 σ H1 x v _ I1 r1 q1) fun _ s2 q=>q
theorem aN {i:Nat}{x:Str}{e:Expr}{te:TE}{pos':Pos}(hN:X.N.Nodup)(hi:X.N[i]? = some x)(hx:Loc X.env.scope x)(he:PE X e te)(hs:swapsWith e (some (.Name x pos')) pos.line X.env=pure false:=by rfl)(hf:X.fn x=true∨X.env.scope.names.lookup x=some .local:=by first|exact .inl rfl|exact .inr rfl|assumption):
  PS X (.Assign [.Name x pos'] e pos) (gC te (fM i)):=by
 intro pins s σ H D I h
 refine wpAny_Assign_Name (aZ (he s σ H _ I h) fun v s1 hz_=>ae.el hz_ _ fun y H1 I1 r1 q1 =>?_) hs
 exact iL I1 hN hi hx r1 (fun s2 I2=>⟨_,H1,I2,q1⟩) hf
def GX (i j:Nat)(ta:TA):TS:=fun D σ H=>ta σ H fun vs H1=>cq fun v w=>vs=[v,w]/\D.nx ((σ.set i (some v)).set j (some w)) H1
theorem xi {i j:Nat}{x y:Str}{a b:Expr}{ta:TA}{px py pt:Pos}{kt k2 pt2}(hc:X.calm=true)(hN:X.N.Nodup)(hi:X.N[i]? = some x)(hj:X.N[j]? = some y)(fq:i≠j)
  (hx:X.env.scope.names.lookup x=some .local) (hy:X.env.scope.names.lookup y=some .local) (ha:PA X [a,b] ta)
  (hw:swappedStores [.Tuple [.Name x px,.Name y py] kt pt] (.Tuple [a,b] k2 pt2) X.env=pure (some [x,y]))
  (hs:swapsWithSole [.Tuple [.Name x px,.Name y py] kt pt] (.Tuple [a,b] k2 pt2) pos.line X.env=pure false:=by rfl) :
  PS X (.Assign [.Tuple [.Name x px,.Name y py] kt pt] (.Tuple [a,b] k2 pt2) pos) (GX i j ta):=by
 intro pins s σ H D I h
 rw[exec_Assign_arm]
 refine wpAny_bind (wpAny_standAt ?_)
 rw[hs]
 refine wpAny_bind (wpAny_pure ?_)
 rw[if_neg (by decide)]
 refine wpAny_bind (Tuple_ (aZ (ha s σ H _ I h) fun us s1 hz_ =>?_))
 refine ae.el hz_ _ ?_
 clear hz_
 rintro vs H1 I1 r1 q1
 obtain⟨v,w,e1,q1⟩:=q1
 subst e1
 obtain⟨u1,u2,rfl,rv,rw'⟩:∃u1 u2,us=[u1,u2]/\RelV v u1/\RelV w u2:=by
  cases r1 with
  | cons p q=>
   cases q with
   | cons p' q'=>
    cases q'
    exact⟨_,_,rfl,p,p'⟩
 refine wpAny_newObj_type ?_ (by show 2<=sizeLine;decide)
 have I2:Inv X pins σ H1 { s1 with heap:=s1.heap.push { cls := .type "tuple",data := .seq [u1,u2].toArray } }:=I1.kept (t':=s1.toks) fun b o e=>Jc _ e
 rw[hw]
 refine wpAny_bind (wpAny_pure ?_)
 show wpAny (model X.prog X.w) X.A (do rule "assign.swapped-stores";let items <-unpackItems (.ref s1.heap.objs.size) 2 none;assignInOrder [fun v=>bindName X.env y v,fun v=>bindName X.env x v] items.reverse;pure Flow.next) _ _ _
 refine wpAny_bind (wpAny_rule (wpAny_bind (unpackItems_tuple (items := #[u1,u2]) (I.ok.hd hc) (IsTup.new s1.heap _) fun h' rK =>?_)))
 have I3:=I2.kept (h':=h') (t':=s1.toks) fun b o e=>rK b o (Jw (Jj e)) e
 show wpAny _ _ (assignInOrder [fun v=>bindName X.env y v,fun v=>bindName X.env x v] [u2,u1] >>= fun _=>pure Flow.next) _ _ _
 refine wpAny_bind (assignInOrder_cons (wpAny_bindName (iL I3 hN hj (.inl hy) rw' (fun s2 I4 =>?_) (.inr hy))))
 refine assignInOrder_cons (wpAny_bindName (iL I4 hN hi (.inl hx) rv (fun s3 I5=>assignInOrder_nil (wpAny_pure ?_)) (.inr hx)))
 rw[List.set_comm _ _ (Ne.symm fq)] at I5
 exact⟨_,H1,I5,q1⟩
end
section
variable {X:Cx}{pos:Pos}
def lr (c:TT)(tb:TS):TS:=fun D σ H=>∃W:Nat->St->Hp->Prop,(∃m,W m σ H)/\∀m σ H,W m σ H ->
 c σ H fun b H1=>if b=true then ∃N:St->Hp->Prop,(∀ σ' H',N σ' H'->∃m',m'<m/\W m' σ' H')/\tb { D with nx:=N,ct:=N,bk:=D.nx } σ H1 else D.nx σ H1
theorem lE {c:Expr}{body:List Stmt}{tc:TT}{tb:TS}(hp:PassesOwn (model X.prog X.w) X.A X.env X.xe)(hc:PT X c tc)(hb:tH X body tb):PS X (.While c body [] pos) (lr tc tb):=by
 intro pins s σ H D I h
 obtain⟨W,⟨m0,w0⟩,turn⟩:=h
 refine wpAny_While (codeAny_whileLoop (fun n s'=>∃ σ' H',Inv X pins σ' H' s'/\W n σ' H') ?_ m0 ⟨σ,H,I,w0⟩)
 rintro n s1 ⟨σ1,H1,I1,w1⟩
 refine wpAny_passesOwn hp (aZ (hc s1 σ1 H1 _ I1 (turn n σ1 H1 w1)) fun b s2 hz_ =>?_)
 refine ae.el hz_ _ ?_
 clear hz_
 rintro H2 I2 q2
 cases b with
 | true=>
  obtain⟨N,hN,q2⟩:=q2
  rw[if_pos rfl]
  refine wpAny_passesOwn hp (aZ (hb s2 σ1 H2 _ I2 q2) fun f s3 q3 =>?_)
  cases f with
  | next=>
   obtain⟨σ3,H3,I3,n3⟩:=q3
   obtain⟨m',hm,w3⟩:=hN σ3 H3 n3
   exact⟨m',hm,σ3,H3,I3,w3⟩
  | cont=>
   obtain⟨σ3,H3,I3,n3⟩:=q3
   obtain⟨m',hm,w3⟩:=hN σ3 H3 n3
   exact⟨m',hm,σ3,H3,I3,w3⟩
  | brk=>exact q3
  | ret v=>exact q3
 | false=>
  rw[if_neg Ju]
  exact wpAny_execs_nil ⟨σ1,H2,I2,q2⟩
end
structure It where
 go:Nat->Hp->Prop
 yld:Nat->Hp->V->Hp->Prop
 stop:Nat->Hp->Prop
def eO (X:Cx)(pins:List (Addr×Obj))(H:Hp)(b:Addr):Prop:=
 H b=none/\b≠X.env.locals/\b∉X.fs/\(b∈X.ex∨X.s₀.heap.objs.size<=b)/\(∀x c,X.env.cells.lookup x=some c->c≠b)/\∀p∈X.pn++pins,p.1≠b
theorem Inv.jF {X:Cx}{pins:List (Addr×Obj)}{σ:St}{H H':Hp}{s:Shared}{b:Addr}(I:Inv X pins σ H s)(hb:s.heap.objs.size<=b)(hn:H' b=none):eO X pins H' b:=by
 refine⟨hn,Ym (Jt I.lt hb),I.GG hb,.inr (Jr I.sz hb),fun x c e z =>?_,fun p hp z =>?_⟩
 ·obtain⟨v,q⟩:=I.cell x c e
  exact absurd (Jt q.lt (by rw[z];exact hb)) (U7 _)
 ·exact absurd (Jt (Jj (I.pin p hp).1) (by rw[z];exact hb)) (U7 _)
structure Turn (P:Program)(w:World)(K:Jb)(tg:Expr)(J:It)(fp:List Addr)(it:Addr)(tn:Nat->Heap->Prop):Prop where
 mem:it∈fp
 obj:∀i h,tn i h->∀b∈fp,∃o,h.get? b=some o/\∀v,o.data ≠ .cell v
 keep:∀i h h',tn i h->(∀b∈fp,∀o,h.get? b=some o->h'.get? b=some o)->tn i h'
 item:∀(X:Cx),X.prog=P->X.w=w->X.K=K->X.calm=true->∀(i:Nat) (pins:List (Addr×Obj)) (s:Shared) (σ:St) (H:Hp) (E:Value->Shared->Prop),Inv X pins σ H s->(∀b∈fp,eO X pins H b)->tn i s.heap->J.go i H ->
  wpAny (model P w) X.A (pyNext (.ref it)) (fun r s1=>∃u,r=some u /\
   wpAny (model P w) X.A (letOwnedTupleGo tg (.ref it) u) (fun _ s2=>∃x H',Inv X pins σ H' s2/\RelV x u/\J.yld i H x H'/\tn (i+1) s2.heap/\∀b∈fp,H' b=none) E s1) E s
 done:∀(X:Cx),X.prog=P->X.w=w->X.K=K->X.calm=true->∀(i:Nat) (pins:List (Addr×Obj)) (s:Shared) (σ:St) (H:Hp) (E:Value->Shared->Prop),Inv X pins σ H s->(∀b∈fp,eO X pins H b)->tn i s.heap->J.stop i H ->
  wpAny (model P w) X.A (pyNext (.ref it)) (fun r s1=>r=none/\Inv X pins σ H s1) E s
 self:∀(A:Around) (i:Nat) (s:Shared) (Q:Value->Shared->Prop) (E:Value->Shared->Prop),tn i s.heap->Q (.ref it) s->wpAny (model P w) A (pyIter (.ref it)) Q E s
abbrev TI:=St->Hp->(It->Hp->Prop)->Prop
def NO (X:Cx)(pins:List (Addr×Obj))(σ:St)(tg:Expr)(R:It->Hp->Prop)(D4:Value)(s2:Shared):Prop:=
 BM fun(it:Addr) (fp:List Addr) (tn:Nat->Heap->Prop) (J:It) (H':Hp)=>D4 = .ref it/\Inv X pins σ H' s2/\Turn X.prog X.w X.K tg J fp it tn/\tn 0 s2.heap/\(∀b∈fp,eO X pins H' b)/\R J H'
def PI (X:Cx)(tg iter:Expr)(wi:TI):Prop:=
 ∀ ⦃pins:List (Addr×Obj)⦄ (s:Shared) (σ:St) (H:Hp) (R:It->Hp->Prop),Inv X pins σ H s->wi σ H R ->
  wpAny (model X.prog X.w) X.A (eval iter X.env) (fun v s1=>wpAny (model X.prog X.w) X.A (pyIter v) (NO X pins σ tg R) X.xe s1) X.xe s
theorem tF {M:Model}{A:Around}{E:Value->Shared->Prop}{s:Shared}{tg:Expr}{it:Addr}{u:Value}{o:Obj}{n:String}{vs:Array Value}{Q:Unit->Shared->Prop}(ho:s.heap.get? it=some o)(hc:o.cls = .type n)(hd:o.data = .fields vs)
  (hn:["enumerate", "zip", "dict_itemiterator", "dict_reverseitemiterator", "odict_iterator", "itertools.zip_longest", "itertools.pairwise"].contains n=false) (hQ:Q () s):wpAny M A (letOwnedTupleGo tg (.ref it) u) Q E s:=by
 unfold letOwnedTupleGo
 cases tg<;>first
  | exact wpAny_pure hQ
  | (cases u<;>first
    | exact wpAny_pure hQ
    | (refine wpAny_bind (wpAny_load ho ?_)
       rw[hc,hd]
       show wpAny M A (if (["enumerate", "zip", "dict_itemiterator", "dict_reverseitemiterator", "odict_iterator", "itertools.zip_longest", "itertools.pairwise"].contains n&&vs[0]? == some (rawInt _))=true then _ else _) Q E s
       rw[if_neg (by intro h;rw[hn,Bool.false_and] at h;cases h)]
       exact wpAny_pure hQ))
noncomputable def NV (K:Jb)(a:Addr):It:=
 ⟨fun i H=>cq fun xs x=>aK K H a xs/\xs[i]? = some x,fun i H x H'=>H'=H/\∀xs,aK K H a xs->xs[i]? = some x,fun i H=>∃xs,aK K H a xs/\xs.length<=i⟩
noncomputable def CD (lo:Int)(n:Nat):It:=⟨fun i _=>i<n,fun i H x H'=>H'=H/\x = .int (lo+i),fun i _=>n<=i⟩
theorem vi {P:Program}{w:World}{K:Jb}{tg:Expr}(a it:Addr):Turn P w K tg (NV K a) [it] it (fun i h=>h.IsListIter it a i) where
 mem:=by simp
 obj:=fun i h st b hb=>by
  have e:b=it:=by simpa using hb
  subst e
  obtain⟨o,e,c,d⟩:=st
  exact⟨o,e,fun v z=>by rw[d] at z;cases z⟩
 keep:=fun i h h' st k=>st.at fun o e=>k it (by simp) o e
 item:=by
  intro X hP hw hK hc i pins s σ H E I hf st hg
  subst hP hw hK
  obtain⟨xs,x,hq,hx⟩:=hg
  obtain⟨ay,rv,p,hz⟩:=I.list hq
  obtain⟨u,hu,ru⟩:=rv.get hx
  obtain⟨f0,f1,f2,f3,f4,f5⟩:=hf it (by simp)
  refine wpAny_pyNext_list_item st p.isList (x:=u) (by simpa using hu) fun h' aE sb =>?_
  have I1:Inv X pins σ H { s with heap:=h' }:=I.turned (t':=s.toks) (fun b o hb e=>(sb.2 b hb).trans e) f0 f1 f3 f4 f5
  obtain⟨o,e,c,d⟩:=id aE
  exact⟨u,rfl,tF (s:={ s with heap:=h' }) e c d (by decide) ⟨x,H,I1,ru,⟨rfl,fun ys hy=>by rw[I.xh hy hq];exact hx⟩,aE,fun b hb=>(hf b hb).1⟩⟩
 done:=by
  intro X hP hw hK hc i pins s σ H E I hf st hg
  subst hP hw hK
  obtain⟨xs,hq,hx⟩:=hg
  obtain⟨ay,rv,p,hz⟩:=I.list hq
  obtain⟨f0,f1,f2,f3,f4,f5⟩:=hf it (by simp)
  have hl:=rv.length
  exact wpAny_pyNext_list_end (I.ok.hd hc) st p.isList (by simp;omega) fun h' eb=>⟨rfl,I.turned (t':=s.toks) (fun b o hb e=>eb b o hb e) f0 f1 f3 f4 f5⟩
 self:=fun _ _ _ _ _ st h=>wpAny_pyIter_listiter st h
theorem sN {P:Program}{w:World}{K:Jb}{tg:Expr}(it:Addr)(lo:Int)(n:Nat):Turn P w K tg (CD lo n) [it] it (fun i h=>IsRangeIter h it (lo+(i:Nat)*1) ((n:Int)-(i:Nat)) 1) where
 mem:=by simp
 obj:=fun i h st b hb=>by
  have e:b=it:=by simpa using hb
  subst e
  exact⟨_,st,fun v z=>by
   have z':Data.fields _=Data.cell v:=z
   cases z'⟩
 keep:=fun i h h' st k=>k it (by simp) _ st
 item:=by
  intro X hP hw hK hc i pins s σ H E I hf st hg
  subst hP hw hK
  obtain⟨f0,f1,f2,f3,f4,f5⟩:=hf it (by simp)
  have W:=Walks.range (prog:=X.prog) (w:=X.w) (I.ok.hd hc) it lo 1 n
  refine W.item i s _ _ hg st fun v h' tk hv aE kk =>?_
  obtain⟨t,rfl⟩:=hv
  have I1:Inv X pins σ H { s with heap:=h',toks:=tk }:=I.turned (fun b o hb e=>kk b o (by simpa using hb) e) f0 f1 f3 f4 f5
  refine⟨_,rfl,tF (s:={ s with heap:=h',toks:=tk }) (n := "range_iterator") aE rfl rfl (by decide) ⟨.int (lo+i),H,I1,⟨t,?_⟩,⟨rfl,rfl⟩,aE,fun b hb=>(hf b hb).1⟩⟩
  rw[Int.mul_one]
 done:=by
  intro X hP hw hK hc i pins s σ H E I hf st hg
  subst hP hw hK
  obtain⟨f0,f1,f2,f3,f4,f5⟩:=hf it (by simp)
  exact wpAny_pyNext_range_end (I.ok.hd hc) st (by have:n<=i:=hg;omega) fun h' eb=>⟨rfl,I.turned (t':=s.toks) (fun b o hb e=>eb b o hb e) f0 f1 f3 f4 f5⟩
 self:=fun _ _ _ _ _ st h=>wpAny_pyIter_rangeiter st h
section
variable {X:Cx}{tg:Expr}
def xA (K:Jb)(tl:TE):TI:=fun σ H R=>tl σ H fun x H1=>∃a,x = .ref a/\(∃xs,aK K H1 a xs)/\R (NV K a) H1
theorem Ax {l:Expr}{tl:TE}(hl:PE X l tl):PI X tg l (xA X.K tl):=by
 intro pins s σ H R I h
 refine aZ (hl s σ H _ I h) fun v s1 hz_ =>?_
 refine ae.el hz_ _ ?_
 clear hz_
 rintro x H1 I1 r1 q1
 obtain⟨a,e,⟨xs,hq⟩,q⟩:=q1
 subst e
 cases r1
 obtain⟨ay,rv,p,hz⟩:=I1.list hq
 refine wpAny_pyIter_list p.isList ?_
 refine⟨s1.heap.objs.size,[s1.heap.objs.size],_,_,H1,rfl,I1.kept (t':=s1.toks) fun b o e=>Jc _ e,vi a _,⟨_,Js _ rfl,rfl,rfl⟩,fun b hb =>?_,q⟩
 have e:b=s1.heap.objs.size:=by simpa using hb
 subst e
 exact I1.jF (Je _) (I1.bb.fresh (Je _))
theorem pV {pins:List (Addr×Obj)}{σ:St}{H:Hp}{s:Shared}{R:It->Hp->Prop}{E:Value->Shared->Prop}{lo hi:Int}{t u v:Tok}{tk:Nat}(I:Inv X pins σ H s)(h1: -(2^62)<=lo)(h2:lo<2^62)(h3: -(2^62)<=hi)(h4:hi<2^62)
  (q:R (CD lo (hi-lo).toNat) H):wpAny (model X.prog X.w) X.A (pyIter (.ref s.heap.objs.size)) (NO X pins σ tg R) E { s with heap:=s.heap.push { cls := .type "range",data := .fields #[.int lo t,.int hi u,.int 1 v] },toks:=tk }:=by
 refine wpAny_pyIter_range (IsRange.new ..) (small_one h1 h2 h3 h4) ?_
 have I1:Inv X pins σ H { s with heap:=s.heap.push { cls := .type "range",data := .fields #[.int lo t,.int hi u,.int 1 v] },toks:=tk }:=I.kept fun b o e=>Jc _ e
 refine⟨(s.heap.push { cls := .type "range",data := .fields #[.int lo t,.int hi u,.int 1 v] }).objs.size,[(s.heap.push { cls := .type "range",data := .fields #[.int lo t,.int hi u,.int 1 v] }).objs.size],_,_,H,rfl,
  I1.kept (t':=tk) fun b o e=>Jc _ e,sN _ lo (hi-lo).toNat,?_,fun b hb =>?_,q⟩
 ·have e1:lo+((0:Nat):Int)*1=lo:=by simp
  have e2:(((hi-lo).toNat:Nat):Int)-((0:Nat):Int)=Builtin.Range.rangeSize lo hi 1:=by rw[rangeSize_one];split<;>omega
  show IsRangeIter _ _ (lo+((0:Nat):Int)*1) ((((hi-lo).toNat:Nat):Int)-((0:Nat):Int)) 1
  rw[e1,e2]
  exact Js _ rfl
 ·have e:b=(s.heap.push { cls := .type "range",data := .fields #[.int lo t,.int hi u,.int 1 v] }).objs.size:=by simpa using hb
  subst e
  exact I1.jF (Je _) (I1.bb.fresh (Je _))
def Fi (ta:TA):TI:=fun σ H R=>ta σ H fun vs H1=>∃j:Int,vs=[.int j] /\ -(2^62)<=j/\j<2^62/\R (CD 0 j.toNat) H1
def Fv (ta:TA):TI:=fun σ H R=>ta σ H fun vs H1=>∃i j:Int,vs=[.int i,.int j]/\(-(2^62)<=i/\i<2^62 /\ -(2^62)<=j/\j<2^62)/\R (CD i (j-i).toNat) H1
theorem du {a:Expr}{ta:TA}{p pos:Pos}(hg:Gl X "range")(hm:X.mg "range" = none)(ha:PA X [a] ta)(hs:starEach [a] X.env=[(false,eval a X.env)]:=by rfl):PI X tg (.Call (.Name "range" p) [a] [] pos) (Fi ta):=by
 intro pins s σ H R I h
 refine Call_ (gr I hg hm boot_range (PyProof.Rows.callWith_type1 (aZ (ha s σ H _ I h) fun us s1 hz_=>ae.el hz_ _ fun vs H1 I1 r1 q1 =>?_) hs rfl))
 obtain⟨j,e,q1,q2,q⟩:=q1
 subst e
 cases r1 with
 | cons r rr=>
  cases rr
  obtain⟨t,rfl⟩:=r
  exact call_range_1 (pV I1 (by omega) (by omega) q1 q2 (by simpa using q))
theorem jt {a b:Expr}{ta:TA}{p pos:Pos}(hg:Gl X "range")(hm:X.mg "range" = none)(ha:PA X [a,b] ta)(hs:starEach [a,b] X.env=[(false,eval a X.env),(false,eval b X.env)]:=by rfl)(zR:starEach [b] X.env=[(false,eval b X.env)]:=by rfl):
  PI X tg (.Call (.Name "range" p) [a,b] [] pos) (Fv ta):=by
 intro pins s σ H R I h
 refine Call_ (gr I hg hm boot_range (PyProof.Rows.callWith_type1 (aZ (ha s σ H _ I h) fun us s1 hz_=>ae.el hz_ _ fun vs H1 I1 r1 q1 =>?_) (by rw[hs,zR]) (by rw[zR];rfl)))
 obtain⟨i,j,e,⟨q1,q2,q3,q4⟩,q⟩:=q1
 subst e
 cases r1 with
 | cons r rr=>
  cases rr with
  | cons r' rr=>
   cases rr
   obtain⟨t,rfl⟩:=r
   obtain⟨t',rfl⟩:=r'
   exact call_range_2 (pV I1 q1 q2 q3 q4 q)
def qQ (wi:TI)(g:TG)(tb:TS):TS:=fun D σ H=>wi σ H fun J H1=>∃W:Nat->Nat->St->Hp->Prop,(∃m,W 0 m σ H1)/\∀i m σ H,W i m σ H ->
 (J.stop i H/\D.nx σ H)∨(J.go i H/\∃N:St->Hp->Prop,(∀ σ' H',N σ' H'->∃m',m'<m/\W (i+1) m' σ' H')/\∀x H',J.yld i H x H'->g x σ H' fun σ2 H2=>tb { D with nx:=N,ct:=N,bk:=D.nx } σ2 H2)
noncomputable def eG (fp:List Addr)(h:Heap):List (Addr×Obj):=fp.filterMap fun b=>(h.get? b).map fun o=>(b,o)
theorem bX {fp:List Addr}{h:Heap}{b:Addr}{o:Obj}(hb:b∈fp)(e:h.get? b=some o):(b,o)∈eG fp h:=List.mem_filterMap.mpr ⟨b,hb,by rw[e];rfl⟩
theorem l8 {fp:List Addr}{h:Heap}{p:Addr×Obj}(hp:p∈eG fp h):p.1∈fp/\h.get? p.1=some p.2:=by
 obtain⟨b,hb,e⟩:=List.mem_filterMap.mp hp
 cases q:h.get? b with
 | none=>rw[q] at e;cases e
 | some o=>
  rw[q] at e
  have e':(b,o)=p:=Option.some.inj e
  subst e'
  exact⟨hb,q⟩
theorem Inv.pinned {pins:List (Addr×Obj)}{σ:St}{H:Hp}{s:Shared}{fp:List Addr}(I:Inv X pins σ H s)(hf:∀b∈fp,eO X pins H b)(ho:∀b∈fp,∃o,s.heap.get? b=some o/\∀v,o.data ≠ .cell v):Inv X (pins++eG fp s.heap) σ H s:=
 I.jZ fun p hp=>(Jh.mp hp).elim (fun z=>I.pin p (Ji _ z)) fun z=>by
  obtain⟨hb,e⟩:=l8 z
  obtain⟨f0,f1,f2,_⟩:=hf p.1 hb
  obtain⟨o,e',d⟩:=ho p.1 hb
  rw[e] at e';cases e'
  exact⟨e,f0,f1,f2,d⟩
theorem Inv.dN {pins pl:List (Addr×Obj)}{σ:St}{H:Hp}{s:Shared}(I:Inv X (pins++pl) σ H s):Inv X pins σ H s:=I.jZ fun p hp=>I.pin p (Ji _ (Uc _ hp))
theorem fH {iter:Expr}{body:List Stmt}{wi:TI}{g:TG}{tb:TS}{pos:Pos}(hp:PassesOwn (model X.prog X.w) X.A X.env X.xe)(hc:X.calm=true)(hi:PI X tg iter wi)(hg:PG X tg g)(hb:tH X body tb)
  (hs:∀x,foldedSetIterable iter X.env x=pure x:=by intro _;rfl):PS X (.For tg iter body [] pos) (qQ wi g tb):=by
 intro pins s σ H D I h
 refine wpAny_For (aZ (hi s σ H _ I h) fun v s1 h1=>aZ h1 fun D4 s2 h2 =>?_) hs
 obtain⟨it,fp,tn,J,H2,e,I2,T,bN,f2,W,⟨m0,w0⟩,turn⟩:=h2
 subst e
 have fC:∀{H':Hp},(∀b∈fp,H' b=none)->∀b∈fp,eO X pins H' b:=fun hn b hb=>⟨hn b hb,(f2 b hb).2⟩
 refine codeAny_forLoop_any (fun n s'=>∃i σ' H',Inv X pins σ' H' s'/\tn i s'.heap/\(∀b∈fp,H' b=none)/\W i n σ' H') ?_ m0 ⟨0,σ,H2,I2,bN,fun b hb=>(f2 b hb).1,w0⟩
 rintro n s3 ⟨i,σ3,H3,I3,cN,fr3,w3⟩
 rcases turn i n σ3 H3 w3 with ⟨stop,qn⟩|⟨go,N,hN,step⟩
 ·refine wpAny_passesOwn hp (aZ (T.done X rfl rfl rfl hc i pins s3 σ3 H3 X.xe I3 (fC fr3) cN stop) fun r s4 hz_ =>?_)
  refine ae.el hz_ _ ?_
  clear hz_
  rintro hr I4
  subst hr
  exact wpAny_execs_nil ⟨σ3,H3,I4,qn⟩
 ·refine wpAny_passesOwn hp (aZ (T.item X rfl rfl rfl hc i pins s3 σ3 H3 X.xe I3 (fC fr3) cN go) fun r s4 hz_ =>?_)
  refine ae.el hz_ _ ?_
  clear hz_
  rintro u hr h4
  subst hr
  refine wpAny_passesOwn hp (aZ h4 fun _ s5 hz_=>ae.el hz_ _ fun x H5 I5 r5 y5 cS fr5 =>?_)
  have Am:=I5.pinned (fC fr5) (T.obj _ _ cS)
  refine wpAny_passesOwn hp (aZ (hg s5 σ3 H5 x u _ Am r5 (step x H5 y5)) fun _ s6 hz_ =>?_)
  refine ae.el hz_ _ ?_
  clear hz_
  rintro σ6 H6 I6 q6
  refine wpAny_passesOwn hp (aZ (hb s6 σ6 H6 _ I6 q6) fun f s7 q7 =>?_)
  have again:∀{σ7:St} {H7:Hp},Inv X (pins++eG fp s5.heap) σ7 H7 s7->N σ7 H7->∃m,m<n/\∃i σ' H',Inv X pins σ' H' s7/\tn i s7.heap/\(∀b∈fp,H' b=none)/\W i m σ' H':=fun{σ7 H7} I7 n7=>by
   obtain⟨m',hm,w7⟩:=hN σ7 H7 n7
   refine⟨m',hm,i+1,σ7,H7,I7.dN,T.keep _ _ _ cS fun b hb o e=>(I7.pin (b,o) (Ji _ (Ji _ (bX hb e)))).1,fun b hb =>?_,w7⟩
   obtain⟨o,e,d⟩:=T.obj _ _ cS b hb
   exact(I7.pin (b,o) (Ji _ (Ji _ (bX hb e)))).2.1
  cases f with
  | next=>obtain⟨σ7,H7,I7,n7⟩:=q7;exact again I7 n7
  | cont=>obtain⟨σ7,H7,I7,n7⟩:=q7;exact again I7 n7
  | brk=>obtain⟨σ7,H7,I7,q7⟩:=q7;exact⟨σ7,H7,I7.dN,q7⟩
  | ret v=>obtain⟨x7,σ7,H7,I7,r7,q7⟩:=q7;exact⟨x7,σ7,H7,I7.dN,r7,q7⟩
end
theorem mL {lo:Int}{n:Nat}{g:TG}{tb:TS}{D:Ends}{σ:St}{H:Hp}(Pv:Nat->St->Hp->Prop)(h0:Pv 0 σ H)
  (hs:∀i σ H,i<n->Pv i σ H->g (.int (lo+i)) σ H fun σ2 H2=>tb { D with nx:=Pv (i+1),ct:=Pv (i+1),bk:=D.nx } σ2 H2) (hd:∀ σ H,Pv n σ H->D.nx σ H) :
  ∃W:Nat->Nat->St->Hp->Prop,(∃m,W 0 m σ H)/\∀i m σ H,W i m σ H ->
   ((CD lo n).stop i H/\D.nx σ H)∨((CD lo n).go i H/\∃N:St->Hp->Prop,(∀ σ' H',N σ' H'->∃m',m'<m/\W (i+1) m' σ' H')/\∀x H',(CD lo n).yld i H x H'->g x σ H' fun σ2 H2=>tb { D with nx:=N,ct:=N,bk:=D.nx } σ2 H2):=by
 refine⟨fun i m σ H=>m=n-i/\i<=n/\Pv i σ H,⟨n,by simp,Um _,h0⟩,?_⟩
 rintro i m σ H ⟨rfl,hi,p⟩
 by_cases cF:i<n
 ·refine .inr ⟨cF,Pv (i+1),fun σ' H' p'=>⟨n-(i+1),by omega,rfl,cF,p'⟩,fun x H' y =>?_⟩
  obtain⟨e,y⟩:=y
  subst e y
  exact hs i σ _ cF p
 ·have e:i=n:=by omega
  subst e
  exact .inl ⟨Je _,hd σ H p⟩
abbrev R2:=V->V->Hp->VK->Prop
def e8 (X:Cx)(f:Value->Value->Sem Value)(r:R2):Prop:=
 ∀ ⦃pins:List (Addr×Obj)⦄ (s:Shared) (σ:St) (H:Hp) (x y:V) (v u:Value) (Q:VK),Inv X pins σ H s->RelV x v->RelV y u->r x y H Q ->
  wpAny (model X.prog X.w) X.A (f v u) (EP X pins σ Q) X.xe s
def IP (X:Cx)(f:Value->Sem Value)(r:V->Hp->VK->Prop):Prop:=
 ∀ ⦃pins:List (Addr×Obj)⦄ (s:Shared) (σ:St) (H:Hp) (x:V) (v:Value) (Q:VK),Inv X pins σ H s->RelV x v->r x H Q ->
  wpAny (model X.prog X.w) X.A (f v) (EP X pins σ Q) X.xe s
def cj (X:Cx)(f:Value)(r:List V->Hp->VK->Prop):Prop:=
 ∀ ⦃pins:List (Addr×Obj)⦄ (s:Shared) (σ:St) (H:Hp) (xs:List V) (us:List Value) (Q:VK),Inv X pins σ H s->Vals xs us->r xs H Q ->
  wpAny (model X.prog X.w) X.A (call f us) (EP X pins σ Q) X.xe s
def Ln (X:Cx)(r:V->Hp->(Bool->Hp->Prop)->Prop):Prop:=
 ∀ ⦃pins:List (Addr×Obj)⦄ (s:Shared) (σ:St) (H:Hp) (x:V) (v:Value) (Q:Bool->Hp->Prop),Inv X pins σ H s->RelV x v->r x H Q ->
  wpAny (model X.prog X.w) X.A (truthy v) (TP X pins σ Q) X.xe s
def GS (r:R2)(ta tb:TE):TE:=fun σ H Q=>ta σ H fun x H1=>tb σ H1 fun y H2=>r x y H2 Q
def Oq (r:V->Hp->VK->Prop)(ta:TE):TE:=fun σ H Q=>ta σ H fun x H1=>r x H1 Q
def rI (C:Int->Int->Prop)(g:Int->Int->V):R2:=fun x y H Q=>cq fun i j=>x = .int i/\y = .int j/\C i j/\Q (g i j) H
def Cy (g:Int->Int->V):R2:=fun x y H Q=>cq fun i j=>x = .int i/\y = .int j/\Q (g i j) H
def rU (g:Int->V):V->Hp->VK->Prop:=fun x H Q=>∃i,x = .int i/\Q (g i) H
section
variable {X:Cx}{a b c:Expr}{ta tb tc:TE}{pos:Pos}
theorem Dh (ha:PE X a ta)(hb:PE X b tb){pins:List (Addr×Obj)}{s:Shared}{σ:St}{H:Hp}{R:V->V->Hp->Prop}(I:Inv X pins σ H s)
  (h:ta σ H fun x H1=>tb σ H1 fun y H2=>R x y H2) {Q:Value->Shared->Prop} {f:Value->Value->Sem Value}
  (hf:∀v u s2 x y H2,Inv X pins σ H2 s2->RelV x v->RelV y u->R x y H2->wpAny (model X.prog X.w) X.A (f v u) Q X.xe s2) :
  wpAny (model X.prog X.w) X.A (eval a X.env) (fun v s₁=>wpAny (model X.prog X.w) X.A (eval b X.env) (fun u s₂=>wpAny (model X.prog X.w) X.A (f v u) Q X.xe s₂) X.xe s₁) X.xe s:=by
 refine aZ (ha s σ H _ I h) fun v s1 hz_ =>?_
 refine ae.el hz_ _ ?_
 clear hz_
 rintro x H1 I1 r1 q1
 refine aZ (hb s1 σ H1 _ I1 q1) fun u s2 hz_ =>?_
 refine ae.el hz_ _ ?_
 clear hz_
 rintro y H2 I2 r2 q2
 exact hf v u s2 x y H2 I2 r1 r2 q2
theorem aH {op:Operator}{r:R2}(ho:e8 X (binaryOp op) r)(ha:PE X a ta)(hb:PE X b tb):PE X (.BinOp a op b pos) (GS r ta tb):=by
 intro pins s σ H Q I h
 exact wpAny_BinOp (Dh ha hb I h fun v u s2 x y H2 I2 rx ry q=>ho s2 σ H2 x y v u Q I2 rx ry q)
theorem BN {op:UnaryOp}{r:V->Hp->VK->Prop}(ho:IP X (unaryOp op) r)(ha:PE X a ta):PE X (.UnaryOp op a pos) (Oq r ta):=by
 intro pins s σ H Q I h
 exact UnaryOp_ (aZ (ha s σ H _ I h) fun v s1 hz_=>ae.el hz_ _ fun x H1 I1 r1 q1=>ho s1 σ H1 x v Q I1 r1 q1)
theorem Hy {f:Value->Value->Sem Value}{C:Int->Int->Prop}{g:Int->Int->Int}
  (rule:∀(i j:Int) (t u:Tok) (s:Shared) (Q:Value->Shared->Prop) (E:Value->Shared->Prop),C i j->Q (.int (g i j) s.toks) { s with toks:=s.toks+1 } -> wpAny (model X.prog X.w) X.A (f (.int i t) (.int j u)) Q E s) :
  e8 X f (rI C fun i j =>.int (g i j)):=by
 intro pins s σ H x y v u Q I rx ry h
 obtain⟨i,j,rfl,rfl,hc,q⟩:=h
 obtain⟨t,rfl⟩:=rx
 obtain⟨t',rfl⟩:=ry
 exact rule i j t t' s _ _ hc ⟨.int (g i j),H,I.tok _,⟨_,rfl⟩,q⟩
theorem EK {f:Value->Value->Sem Value}{g:Int->Int->Int}
  (rule:∀(i j:Int) (t u:Tok) (s:Shared) (Q:Value->Shared->Prop) (E:Value->Shared->Prop),Q (.int (g i j) s.toks) { s with toks:=s.toks+1 } -> wpAny (model X.prog X.w) X.A (f (.int i t) (.int j u)) Q E s) :
  e8 X f (Cy fun i j =>.int (g i j)):=by
 intro pins s σ H x y v u Q I rx ry h
 obtain⟨i,j,rfl,rfl,q⟩:=h
 obtain⟨t,rfl⟩:=rx
 obtain⟨t',rfl⟩:=ry
 exact rule i j t t' s _ _ ⟨.int (g i j),H,I.tok _,⟨_,rfl⟩,q⟩
theorem CF {f:Value->Value->Sem Value}{g:Int->Int->Bool}
  (rule:∀(i j:Int) (t u:Tok) (s:Shared) (Q:Value->Shared->Prop) (E:Value->Shared->Prop),Q (.bool (g i j)) s->wpAny (model X.prog X.w) X.A (f (.int i t) (.int j u)) Q E s) :
  e8 X f (Cy fun i j =>.bl (g i j)):=by
 intro pins s σ H x y v u Q I rx ry h
 obtain⟨i,j,rfl,rfl,q⟩:=h
 obtain⟨t,rfl⟩:=rx
 obtain⟨t',rfl⟩:=ry
 exact rule i j t t' s _ _ ⟨.bl (g i j),H,I,rfl,q⟩
def Dr (i j:Int):Prop:=0<j/\j<1073741824
def La (i j:Int):Prop:=0<=j/\j<=1000000/\i.natAbs<2^64
def si (i j:Int):Prop:=(-(2^64)<i/\i<2^64)∨(-(2^64)<j/\j<2^64)
theorem si.ok {i j:Int}(h:si i j):IntMulOk i j:=by
 rcases h with ⟨h1,h2⟩|⟨h1,h2⟩
 ·exact .of_left (intBits_le_64 h1 h2)
 ·exact .of_right (intBits_le_64 h1 h2)
theorem Dt:e8 X (binaryOp .Add) (Cy fun i j =>.int (i+j)):=EK fun _ _ _ _ _ _ _ q=>add_int q
theorem v8:e8 X (binaryOp .Sub) (Cy fun i j =>.int (i-j)):=EK fun _ _ _ _ _ _ _ q=>sub_int q
theorem Dp:e8 X (binaryOp .Mult) (rI si fun i j =>.int (i*j)):=Hy fun _ _ _ _ _ _ _ hc q=>mul_int q hc.ok
theorem A6:e8 X (binaryOp .FloorDiv) (rI Dr fun i j =>.int (i / j)):=Hy fun i j _ _ _ _ _ hc q=>by
 have h1:(0:Int)<j:=hc.1
 have h2:j<1073741824:=hc.2
 exact floordiv_int (by omega) (by rw[Int.fdiv_eq_ediv_of_nonneg i (by omega)];exact q) (.inl (PyProof.noPylong_small (by omega)))
theorem ie:e8 X (binaryOp .Mod) (rI (fun _ j=>0<j) fun i j =>.int (i%j)):=Hy fun i j _ _ _ _ _ hc q=>by
 have h1:(0:Int)<j:=hc
 exact mod_int' (by omega) (by rw[Int.fmod_eq_emod_of_nonneg i (by omega)];exact q)
theorem rJ:e8 X (binaryOp .Pow) (rI La fun i j =>.int (i^j.toNat)):=Hy fun _ _ _ _ _ _ _ hc q=>pow_int_small hc.1 hc.2.1 hc.2.2 q
theorem O0 {f:Value->Sem Value}{g:Int->Int}
  (rule:∀(i:Int) (t:Tok) (s:Shared) (Q:Value->Shared->Prop) (E:Value->Shared->Prop),Q (.int (g i) s.toks) { s with toks:=s.toks+1 } -> wpAny (model X.prog X.w) X.A (f (.int i t)) Q E s) :
  IP X f (rU fun i =>.int (g i)):=by
 intro pins s σ H x v Q I rx h
 obtain⟨i,rfl,q⟩:=h
 obtain⟨t,rfl⟩:=rx
 exact rule i t s _ _ ⟨.int (g i),H,I.tok _,⟨_,rfl⟩,q⟩
theorem yB:IP X (unaryOp .USub) (rU fun i =>.int (-i)):=O0 fun _ _ _ _ _ q=>neg_int q
end
noncomputable def EG:V->V->Bool
 | .non,.non=>true | .non,.int _=>true | .int _,.non=>true | .non,.bl _=>true | .bl _,.non=>true | .non,.str _=>true | .str _,.non=>true
 | .int _,.int _=>true | .bl _,.bl _=>true | .str _,.str _=>true | .byt _,.byt _=>true
 | .int _,.str _=>true | .str _,.int _=>true | .bl _,.str _=>true | .str _,.bl _=>true
 | _,_=>false
def JW:R2:=fun x y H Q=>EG x y=true/\Q (.bl (decide (x=y))) H
def IC:R2:=fun x y H Q=>EG x y=true/\Q (.bl (!decide (x=y))) H
theorem sU {i j:Int}:decide (V.int i=V.int j)=(i==j):=by
 rw[Bool.eq_iff_iff]
 simp
theorem wB {i j:Bool}:decide (V.bl i=V.bl j)=(i==j):=by
 rw[Bool.eq_iff_iff]
 simp
theorem tT {i j:Str}:decide (V.str i=V.str j)=(i==j):=by
 rw[Bool.eq_iff_iff]
 simp
theorem uf {i j:Array UInt8}:decide (V.byt i=V.byt j)=(i.toList==j.toList):=by
 rw[Bool.eq_iff_iff]
 cases i
 cases j
 simp
section
variable {X:Cx}{a b c:Expr}{ta tb tc:TE}{pos:Pos}
theorem ba {pins:List (Addr×Obj)}{σ:St}{H:Hp}{s:Shared}{Q:VK}{k k':Bool}(I:Inv X pins σ H s)(q:Q (.bl k) H)(e:k=k'):EP X pins σ Q (.bool k') s:=by
 subst e
 exact⟨.bl k,H,I,rfl,q⟩
theorem GI:e8 X (compareOp .Eq) JW:=by
 intro pins s σ H x y v u Q I rx ry h
 obtain⟨hs,q⟩:=h
 cases x with
 | non=>
  cases rx
  cases y with
  | non=>cases ry;exact PySem.EqNone.eq_none_none (ba I q (by simp))
  | bl j=>cases ry;exact PySem.EqNone.eq_none_bool (ba I q (by simp))
  | int j=>obtain⟨t',rfl⟩:=ry;exact PySem.EqNone.eq_none_int (ba I q (by simp))
  | str j=>obtain⟨t',rfl⟩:=ry;exact PySem.EqNone.eq_none_str (ba I q (by simp))
  | _=>exact absurd (show false=true from hs) Ju
 | bl i=>
  cases rx
  cases y with
  | non=>cases ry;exact PySem.EqNone.eq_bool_none (ba I q (by simp))
  | bl j=>cases ry;exact eq_bool (ba I q wB)
  | str j=>obtain⟨t',rfl⟩:=ry;exact PySem.EqMixed.eq_bool_str (ba I q (by simp))
  | _=>exact absurd (show false=true from hs) Ju
 | int i=>
  obtain⟨t,rfl⟩:=rx
  cases y with
  | non=>cases ry;exact PySem.EqNone.eq_int_none (ba I q (by simp))
  | int j=>obtain⟨t',rfl⟩:=ry;exact eq_int (ba I q sU)
  | str j=>obtain⟨t',rfl⟩:=ry;exact PySem.EqMixed.eq_int_str (ba I q (by simp))
  | _=>exact absurd (show false=true from hs) Ju
 | str i=>
  obtain⟨t,rfl⟩:=rx
  cases y with
  | non=>cases ry;exact PySem.EqNone.eq_str_none (ba I q (by simp))
  | bl j=>cases ry;exact PySem.EqMixed.eq_str_bool (ba I q (by simp))
  | int j=>obtain⟨t',rfl⟩:=ry;exact PySem.EqMixed.eq_str_int (ba I q (by simp))
  | str j=>obtain⟨t',rfl⟩:=ry;exact eq_str (ba I q tT)
  | _=>exact absurd (show false=true from hs) Ju
 | byt i=>
  obtain⟨t,rfl⟩:=rx
  cases y with
  | byt j=>obtain⟨t',rfl⟩:=ry;exact PySem.W.eq_bytes (ba I q uf)
  | _=>exact absurd (show false=true from hs) Ju
 | _=>cases y<;>exact absurd (show false=true from hs) Ju
theorem GK:e8 X (compareOp .NotEq) IC:=by
 intro pins s σ H x y v u Q I rx ry h
 obtain⟨hs,q⟩:=h
 cases x with
 | non=>
  cases rx
  cases y with
  | non=>cases ry;exact PySem.EqNone.ne_none_none (ba I q (by simp))
  | bl j=>cases ry;exact PySem.EqNone.ne_none_bool (ba I q (by simp))
  | int j=>obtain⟨t',rfl⟩:=ry;exact PySem.EqNone.ne_none_int (ba I q (by simp))
  | str j=>obtain⟨t',rfl⟩:=ry;exact PySem.EqNone.ne_none_str (ba I q (by simp))
  | _=>exact absurd (show false=true from hs) Ju
 | bl i=>
  cases rx
  cases y with
  | non=>cases ry;exact PySem.EqNone.ne_bool_none (ba I q (by simp))
  | bl j=>cases ry;exact ne_bool (ba I q (congrArg not wB))
  | str j=>obtain⟨t',rfl⟩:=ry;exact PySem.EqMixed.ne_bool_str (ba I q (by simp))
  | _=>exact absurd (show false=true from hs) Ju
 | int i=>
  obtain⟨t,rfl⟩:=rx
  cases y with
  | non=>cases ry;exact PySem.EqNone.ne_int_none (ba I q (by simp))
  | int j=>obtain⟨t',rfl⟩:=ry;exact ne_int (ba I q (congrArg not sU))
  | str j=>obtain⟨t',rfl⟩:=ry;exact PySem.EqMixed.ne_int_str (ba I q (by simp))
  | _=>exact absurd (show false=true from hs) Ju
 | str i=>
  obtain⟨t,rfl⟩:=rx
  cases y with
  | non=>cases ry;exact PySem.EqNone.ne_str_none (ba I q (by simp))
  | bl j=>cases ry;exact PySem.EqMixed.ne_str_bool (ba I q (by simp))
  | int j=>obtain⟨t',rfl⟩:=ry;exact PySem.EqMixed.ne_str_int (ba I q (by simp))
  | str j=>obtain⟨t',rfl⟩:=ry;exact ne_str (ba I q (congrArg not tT))
  | _=>exact absurd (show false=true from hs) Ju
 | byt i=>
  obtain⟨t,rfl⟩:=rx
  cases y with
  | byt j=>obtain⟨t',rfl⟩:=ry;exact PySem.W.ne_bytes (ba I q (congrArg not uf))
  | _=>exact absurd (show false=true from hs) Ju
 | _=>cases y<;>exact absurd (show false=true from hs) Ju
theorem ko:e8 X (compareOp .Lt) (Cy fun i j =>.bl (decide (i<j))):=CF fun _ _ _ _ _ _ _ q=>lt_int q
theorem FY:e8 X (compareOp .Gt) (Cy fun i j =>.bl (decide (j<i))):=CF fun _ _ _ _ _ _ _ q=>gt_int q
theorem tW:e8 X (compareOp .GtE) (Cy fun i j =>.bl (decide (j<=i))):=CF fun _ _ _ _ _ _ _ q=>ge_int q
theorem Cv:e8 X (compareOp .Is) (fun x y H Q=>y = .non/\Q (.bl (decide (x = .non))) H):=by
 intro pins s σ H x y v u Q I rx ry h
 obtain⟨rfl,q⟩:=h
 cases ry
 refine is_none_gen (ba I q ?_)
 cases x<;>first
  | (cases rx;rfl)
  | (obtain⟨t,rfl⟩:=rx;rfl)
theorem yV:e8 X (compareOp .IsNot) (fun x y H Q=>y = .non/\Q (.bl (!decide (x = .non))) H):=by
 intro pins s σ H x y v u Q I rx ry h
 obtain⟨rfl,q⟩:=h
 cases ry
 refine isnot_none_gen (ba I q ?_)
 cases x<;>first
  | (cases rx;rfl)
  | (obtain⟨t,rfl⟩:=rx;rfl)
theorem e8.or {f:Value->Value->Sem Value}{r r':R2}(h:e8 X f r)(h':e8 X f r'):e8 X f (fun x y H Q=>r x y H Q∨r' x y H Q):=by
 intro pins s σ H x y v u Q I rx ry q
 rcases q with q|q
 ·exact h s σ H x y v u Q I rx ry q
 ·exact h' s σ H x y v u Q I rx ry q
theorem aL (b:Expr){op:CmpOp}(h:op ≠ .In:=by decide)(h2:op ≠ .NotIn:=by decide):behindInMarks op b=false:=by
 have e1:(op==CmpOp.In)=false:=by cases op<;>first|rfl|exact absurd rfl h
 have e2:(op==CmpOp.NotIn)=false:=by cases op<;>first|rfl|exact absurd rfl h2
 cases b<;>simp[behindInMarks,e1,e2]
theorem fG {op:CmpOp}{r:R2}(ho:e8 X (compareOp op) r)(ha:PE X a ta)(hb:PE X b tb)(hm:behindInMarks op b=false):PE X (.Compare a [op] [b] pos) (GS r ta tb):=by
 intro pins s σ H Q I h
 exact wpAny_Compare1 (Dh ha hb I h fun v u s2 x y H2 I2 rx ry q=>ho s2 σ H2 x y v u Q I2 rx ry q) hm
def Gb (t:TE):TT:=fun σ H Q=>t σ H fun x H'=>∃k,x = .bl k/\Q k H'
theorem aI {op:CmpOp}{r:R2}(ho:e8 X (compareOp op) r)(ha:PE X a ta)(hb:PE X b tb)(hm:behindInMarks op b=false):PT X (.Compare a [op] [b] pos) (Gb (GS r ta tb)):=by
 intro pins s σ H Q I h
 refine wpAny_isTrue_Compare1 (aZ (ha s σ H _ I h) fun v s1 hz_=>ae.el hz_ _ fun x H1 I1 r1 q1=>aZ (hb s1 σ H1 _ I1 q1) fun u s2 ⟨y,H2,I2,r2,q2⟩=>
  aZ (ho s2 σ H2 x y v u _ I2 r1 r2 q2) fun c s3 ⟨z,H3,I3,r3,k,e,q3⟩=>?_) hm
 subst e
 cases r3
 exact wpAny_truthy_bool ⟨H3,I3,q3⟩
def EE (K:Jb)(x:V)(H:Hp)(k:Bool):Prop:=
 match x with
 | .non=>k=false
 | .bl b=>k=b
 | .int i=>k=(i != 0)
 | .str y=>y.length<=sizeLine/\k=((y.length:Int) != 0)
 | .byt y=>y.size<=sizeLine/\k=((y.size:Int) != 0)
 | .ref p=>(∃xs,aK K H p xs/\k = !xs.isEmpty)∨(∃xs,fP K H p xs/\k = !xs.isEmpty)∨∃kvs,H p=some (.dK kvs)/\k = !kvs.isEmpty
 | _=>False
theorem rp {κ:Type}{kvs:List (κ×V)}{vs:List (κ×Value)}(r:KV kvs vs):(!vs.isEmpty) = !kvs.isEmpty:=by
 cases r<;>rfl
theorem j5 {xs:List V}{ay:List Value}(r:Vals xs ay):(!ay.toArray.isEmpty) = !xs.isEmpty:=by
 cases r<;>simp
theorem i8:(sizeLine:Nat)<2^63:=by rw[sizeLine_eq];decide
theorem Ca:Ln X (fun x H Q=>∃k,EE X.K x H k/\Q k H):=by
 intro pins s σ H x v Q I rx h
 obtain⟨k,e,q⟩:=h
 have hl:=i8
 have hs:sizeLine=16777216:=sizeLine_eq
 cases x with
 | non=>
  cases rx
  have e':k=false:=e
  subst e'
  exact truthy_none ⟨H,I,q⟩
 | bl b=>
  cases rx
  have e':k=b:=e
  subst e'
  exact wpAny_truthy_bool ⟨H,I,q⟩
 | int i=>
  obtain⟨t,rfl⟩:=rx
  have e':k=(i != 0):=e
  subst e'
  exact PySem.P.truthy_int ⟨H,I,q⟩
 | str y=>
  obtain⟨t,rfl⟩:=rx
  obtain⟨hy,e'⟩:y.length<=sizeLine/\k=((y.length:Int) != 0):=e
  subst e'
  exact PySem.P.truthy_str (by omega) ⟨H,I.tok _,q⟩
 | byt y=>
  obtain⟨t,rfl⟩:=rx
  obtain⟨hy,e'⟩:y.size<=sizeLine/\k=((y.size:Int) != 0):=e
  subst e'
  exact PySem.W.truthy_bytes (by omega) ⟨H,I.tok _,q⟩
 | ref p=>
  cases rx
  have e':(∃xs,aK X.K H p xs/\k = !xs.isEmpty)∨(∃xs,fP X.K H p xs/\k = !xs.isEmpty)∨∃kvs,H p=some (.dK kvs)/\k = !kvs.isEmpty:=e
  rcases e' with ⟨xs,hx,e'⟩|⟨xs,hx,e'⟩|⟨kvs,hx,e'⟩
  ·subst e'
   obtain⟨ay,r,pl,hz⟩:=I.list hx
   have hlen:=r.length
   exact wpAny_truthy_list pl.isList (by simp only[Jm];omega) ⟨H,I.tok _,by rw[j5 r];exact q⟩
  ·subst e'
   obtain⟨ay,r,pl,hz⟩:=I.tuple hx
   have hlen:=r.length
   exact truthy_tuple pl (by simp only[Jm];omega) ⟨H,I.tok _,by rw[j5 r];exact q⟩
  ·subst e'
   obtain⟨hz,hS,vs,r,m⟩:kvs.length<=sizeLine/\(p==sysModules)=false/\∃vs,KV kvs vs/\s.heap.DictOf (aR X.prog X.w) p vs:=I.bb p _ hx
   have hlen:kvs.length=vs.length:=Paired.length r
   exact wpAny_truthy_dict hS m (by omega) ⟨H,I.tok _,by rw[rp r];exact q⟩
 | _=>exact(show False from e).elim
theorem wo (ha:PE X a ta)(he:∀whole,isTrue a X.env whole=(do let v <-whole;standAt a.pos;holding [v] (truthy v))):
  PT X a (fun σ H Q=>ta σ H fun x H'=>∃k,EE X.K x H' k/\Q k H'):=by
 intro pins s σ H Q I h
 exact isTrue_plain (aZ (ha s σ H _ I h) fun v s1 hz_=>ae.el hz_ _ fun x H1 I1 r1 q1=>Ca s1 σ H1 x v Q I1 r1 q1) (he _)
theorem rA:e8 X (binaryOp .Add) (fun x y H Q=>∃i j,x = .str i/\y = .str j/\i.length+j.length<=sizeLine/\Q (.str (i++j)) H):=by
 intro pins s σ H x y v u Q I rx ry h
 obtain⟨i,j,rfl,rfl,hz,q⟩:=h
 obtain⟨t,rfl⟩:=rx
 obtain⟨t',rfl⟩:=ry
 exact add_str (fun t' tk=>⟨.str (i++j),H,I.tok _,⟨_,rfl⟩,q⟩) hz
theorem vals1 {x:V}{us:List Value}(r:Vals [x] us):∃u,us=[u]/\RelV x u:=by
 cases r with
 | cons r1 r2=>cases r2;exact⟨_,rfl,r1⟩
theorem vals2 {x y:V}{us:List Value}(r:Vals [x,y] us):∃u w',us=[u,w']/\RelV x u/\RelV y w':=by
 cases r with
 | cons r1 r2=>
  cases r2 with
  | cons r3 r4=>cases r4;exact⟨_,_,rfl,r1,r3⟩
theorem vh (hc:X.calm=true):cj X (.builtin "max") (fun xs H Q=>∃i j,xs=[.int i,.int j]/\Q (.int (if j>i then j else i)) H):=by
 intro pins s σ H xs us Q I r h
 obtain⟨i,j,rfl,q⟩:=h
 obtain⟨u,w',rfl,⟨t,rfl⟩,⟨t',rfl⟩⟩:=vals2 r
 refine max_two_ints (I.ok.hd hc) fun h' tk k=>⟨_,H,I.kept k,?_,q⟩
 by_cases hj:j>i
 ·rw[if_pos hj,if_pos hj];exact⟨_,rfl⟩
 ·rw[if_neg hj,if_neg hj];exact⟨_,rfl⟩
theorem vA:cj X (.type "int") (fun xs H Q=>(∃i,xs=[.int i]/\Q (.int i) H)∨∃k,xs=[.bl k]/\Q (.int (if k then 1 else 0)) H):=by
 intro pins s σ H xs us Q I r h
 rcases h with ⟨i,rfl,q⟩|⟨k,rfl,q⟩
 ·obtain⟨u,rfl,t,rfl⟩:=vals1 r
  exact call_int_int ⟨.int i,H,I,⟨_,rfl⟩,q⟩
 ·obtain⟨u,rfl,r1⟩:=vals1 r
  cases r1
  exact call_int_bool ⟨.int (if k then 1 else 0),H,I.tok _,⟨_,rfl⟩,q⟩
def FO (K:Jb)(x:V)(H:Hp)(n:Nat):Prop:=
 match x with
 | .str y=>y.length<=sizeLine/\n=y.length
 | .byt y=>y.size<=sizeLine/\n=y.size
 | .ref p=>(∃xs,aK K H p xs/\n=xs.length)∨∃xs,fP K H p xs/\n=xs.length
 | _=>False
theorem wq:cj X (.builtin "len") (fun xs H Q=>∃x n,xs=[x]/\FO X.K x H n/\Q (.int n) H):=by
 intro pins s σ H xs us Q I r h
 obtain⟨x,n,rfl,e,q⟩:=h
 obtain⟨u,rfl,rx⟩:=vals1 r
 have hl:=i8
 have hs:sizeLine=16777216:=sizeLine_eq
 cases x with
 | str y=>
  obtain⟨t,rfl⟩:=rx
  obtain⟨hy,e'⟩:y.length<=sizeLine/\n=y.length:=e
  subst e'
  exact len_str (by omega) ⟨.int _,H,I.tok _,⟨_,rfl⟩,q⟩
 | byt y=>
  obtain⟨t,rfl⟩:=rx
  obtain⟨hy,e'⟩:y.size<=sizeLine/\n=y.size:=e
  subst e'
  exact PySem.W.len_bytes (by omega) ⟨.int _,H,I.tok _,⟨_,rfl⟩,q⟩
 | ref p=>
  cases rx
  have e':(∃xs,aK X.K H p xs/\n=xs.length)∨∃xs,fP X.K H p xs/\n=xs.length:=e
  rcases e' with ⟨xs,hx,e'⟩|⟨xs,hx,e'⟩
  ·subst e'
   obtain⟨ay,r',pl,hz⟩:=I.list hx
   have hlen:=r'.length
   exact Calls.call_len_list pl.isList (by simp only[Jm];omega) ⟨.int xs.length,H,I.tok _,⟨_,by simp only[Jm];rw[hlen]⟩,q⟩
  ·subst e'
   obtain⟨ay,r',pl,hz⟩:=I.tuple hx
   have hlen:=r'.length
   exact len_tuple pl (by simp only[Jm];omega) ⟨.int xs.length,H,I.tok _,⟨_,by simp only[Jm];rw[hlen]⟩,q⟩
 | _=>exact(show False from e).elim
theorem qp:cj X (.builtin "divmod") (fun xs H Q=>∃i j,xs=[.int i,.int j]/\Dr i j/\∀p,H p=none->Q (.ref p) (upd H p (.tup [.int (i / j),.int (i%j)]))):=by
 intro pins s σ H xs us Q I r h
 obtain⟨i,j,rfl,⟨h1,h2⟩,q⟩:=h
 obtain⟨u,w',rfl,⟨t,rfl⟩,⟨t',rfl⟩⟩:=vals2 r
 refine divmod_int (by omega) ?_ (.inl (PyProof.noPylong_small (by omega)))
 rw[Int.fdiv_eq_ediv_of_nonneg i (by omega),Int.fmod_eq_emod_of_nonneg i (by omega)]
 have hn:H s.heap.objs.size=none:=I.bb.fresh (Je _)
 refine⟨.ref s.heap.objs.size,_,?_,rfl,q _ hn⟩
 refine I.laid (fun b o e=>Jc _ e) (Je _) ⟨by simp only[J0,Yn];rw[sizeLine_eq];decide,[.int (i / j) s.toks,.int (i%j) (s.toks+1)],.cons ⟨_,rfl⟩ (.cons ⟨_,rfl⟩ .nil),?_⟩
 exact⟨_,Js s.heap rfl,rfl,0,rfl⟩
end
structure DB (h:Heap)(x dx C:Addr)(mA:Str->Option Value):Prop where
 obj:h.get? x=some (PySem.W.instObj C dx)
 ns:h.Ns1 dx mA
 ne:dx≠x
theorem u9 {h:Heap}{dx:Addr}{mA:Str->Option Value}(n:h.Ns1 dx mA):∃od,h.get? dx=some od/\∀name,PySem.W.lookIn name od=some (mA name):=by
 obtain⟨o,es,ep,ho,hd,hk,_,hm⟩:=n
 refine⟨o,ho,fun name =>?_⟩
 have e:=hm name
 unfold nsFind findBy at e
 rw[<-Array.find?_toList] at e
 unfold PySem.W.lookIn
 rw[hd]
 dsimp only
 split
 ·rename_i y q
  rw[q] at e
  exact congrArg some e
 ·rename_i q
  rw[q] at e
  have a:es.toList.any (·.refKey)=false:=by
   rw[List.any_eq_false]
   intro y hy
   obtain⟨z,t,hkey⟩:=hk y (Array.mem_toList_iff.mp hy)
   simp[DictEntry.refKey,hkey]
  have a':¬es.toList.any (·.refKey)=true:=by rw[a];exact Ju
  rw[if_neg a']
  exact congrArg some e
theorem DB.look {h:Heap}{x dx C:Addr}{mA:Str->Option Value}(I:DB h x dx C mA):∃od,PySem.W.InstAt h x (PySem.W.instObj C dx) C (some od)/\∀name,PySem.W.lookIn name od=some (mA name):=
 let ⟨od,ho,hl⟩:=u9 I.ns
 ⟨od,⟨I.obj,rfl,rfl,ho⟩,hl⟩
theorem jj.some_of {v:V}{o:Option Value}(r:jj (some v) o):∃u,o=some u/\RelV v u:=by
 cases o with
 | none=>exact(show False from r).elim
 | some u=>exact⟨u,rfl,r⟩
section
variable {P:Program}{w:World}{H H':Hp}{h h':Heap}{a C dx:Addr}{fs nF:List (Str×V)}
theorem Ad (bb:fK P w H h)(e:H a=some (.ins C dx fs)):∃mA,DB h a dx C mA/\(∀f,jj (fs.lookup f) (mA f))/\PySem.Within mA (fs.map (·.1))/\fs.length<=1000/\H dx=some (.own a):=by
 obtain⟨d,z,ne,ob,mA,n,r,q⟩:=(show bF P w H h a (.ins C dx fs) from bb a _ e)
 exact⟨mA,⟨ob,n,ne⟩,r,q,z,d⟩
end
structure Lk (K:Jb)(C:Addr):Prop where
 pg:PySem.W.plainGet K C Str.empty=true
 hd:PySem.W.hasDictIn K C=true
 po:PySem.W.plainOver K C=true
 sa:PySem.W.findIn K (.ref C) "__setattr__" = some (some (.builtin "object.__setattr__"))
theorem Lk.get {K:Jb}{C:Addr}(c:Lk K C)(f:Str):PySem.W.plainGet K C f=true:=c.pg
section
variable {X:Cx}{pins:List (Addr×Obj)}{σ:St}{H:Hp}{s:Shared}{A:Around}{E:Value->Shared->Prop}{Q:Value->Shared->Prop}{c:Value}{b:Bool}
inductive iM (K:Jb)(H:Hp):V->Value->Prop where
 | non:iM K H .non (.type "NoneType")
 | bl (x:Bool):iM K H (.bl x) (.type "bool")
 | int (i:Int):iM K H (.int i) (.type "int")
 | str (x:Str):iM K H (.str x) (.type "str")
 | flt (x:UInt64):iM K H (.flt x) (.type "float")
 | lst {a:Addr} {xs:List V} (e:H a=some (.lst xs)):iM K H (.ref a) (.type "list")
 | frz {a:Addr} {o:Obj} {xs:List V} (e:H a=some (.frz o (.lst xs))):iM K H (.ref a) (.type "list")
 | tup {a:Addr} {xs:List V} (e:H a=some (.tup xs)):iM K H (.ref a) (.type "tuple")
 | dK {a:Addr} {kvs:List (Key×V)} (e:H a=some (.dK kvs)):iM K H (.ref a) (.type "dict")
 | dT {a:Addr} {kvs:List (List Key×V)} (e:H a=some (.dT kvs)):iM K H (.ref a) (.type "dict")
 | ins {a C dx:Addr} {fs:List (Str×V)} (e:H a=some (.ins C dx fs)) (cl:Lk K C) (ha:PySem.W.findIn K (.ref C) "__class__" = some (some (.builtin "object.__class__")))
   (hn:PySem.W.specialIn K (.builtin "object.__class__") "__get__" = some (some (.builtin "getset_descriptor.__get__"))) (cY:PySem.W.takesIn K (.builtin "object.__class__")=some true)
   (hm:PySem.W.mroIn K C (.type "object")=some true):iM K H (.ref a) (.ref C)
theorem uA {x:V}{u t:Value}(I:Inv X pins σ H s)(rx:RelV x u)(ty:iM X.K H x t)(e:Ys X.K t c=some b)(h:∀tk,Q (.bool b) { s with toks:=tk }):
  wpAny (model X.prog X.w) A (call (.builtin "isinstance") [u,c]) Q E s:=by
 cases ty with
 | non=>cases (show u=Value.none from rx);exact Yc PySem.W.kitx_none I.oW True.intro e (fun z=>nomatch z) h
 | bl y=>cases (show u=Value.bool y from rx);exact Yc PySem.W.kitx_bool I.oW True.intro e (fun z=>nomatch z) h
 | int i=>obtain⟨t,q⟩:=(show ∃t,u=Value.int i t from rx);cases q;exact Yc PySem.W.kitx_int I.oW True.intro e (fun z=>nomatch z) h
 | str y=>obtain⟨t,q⟩:=(show ∃t,u=Value.str y t from rx);cases q;exact Yc PySem.W.kitx_str I.oW True.intro e (fun z=>nomatch z) h
 | flt y=>obtain⟨t,q⟩:=(show ∃t,u=Value.float y t from rx);cases q;exact Yc PySem.W.kitx_float I.oW True.intro e (fun z=>nomatch z) h
 | @lst a xs ea=>
  cases (show u=Value.ref a from rx)
  obtain⟨_,_,n,_,h1⟩:=(show bF X.prog X.w H s.heap a (.lst xs) from I.bb a _ ea)
  exact Yc PySem.W.kitx_list I.oW ⟨_,h1,rfl⟩ e (fun z=>nomatch z) h
 | @frz a ob xs ea=>
  cases (show u=Value.ref a from rx)
  obtain⟨_,_,_,n,_,h1⟩:=(show bF X.prog X.w H s.heap a (.frz ob (.lst xs)) from I.bb a _ ea)
  exact Yc PySem.W.kitx_list I.oW ⟨_,h1,rfl⟩ e (fun z=>nomatch z) h
 | @tup a xs ea=>
  cases (show u=Value.ref a from rx)
  obtain⟨_,_,_,p⟩:=(show bF X.prog X.w H s.heap a (.tup xs) from I.bb a _ ea)
  obtain⟨o,h1,h2,_⟩:=p
  exact Yc PySem.W.kitx_tuple I.oW ⟨o,h1,h2⟩ e (fun z=>nomatch z) h
 | @dK a kvs ea=>
  cases (show u=Value.ref a from rx)
  obtain⟨_,_,vs,_,p⟩:=(show bF X.prog X.w H s.heap a (.dK kvs) from I.bb a _ ea)
  obtain⟨o,es,ep,h1,h2,_⟩:=p
  exact Yc PySem.W.kitx_dict I.oW ⟨o,h1,h2.1⟩ e (fun z=>nomatch z) h
 | @dT a kvs ea=>
  cases (show u=Value.ref a from rx)
  obtain⟨_,_,xs,_,o,es,ep,h1,h2,_⟩:=(show bF X.prog X.w H s.heap a (.dT kvs) from I.bb a _ ea)
  exact Yc PySem.W.kitx_dict I.oW ⟨o,h1,h2.1⟩ e (fun z=>nomatch z) h
 | @ins a C dx fs ea cl ha hn cY hm=>
  cases (show u=Value.ref a from rx)
  obtain⟨mA,O,_⟩:=Ad I.bb ea
  obtain⟨od,J,_⟩:=O.look
  exact Yc (PySem.W.kitx_own (cl.get _) cl.hd ha hn cY hm) I.oW J e (fun z=>nomatch z) h
end
structure dM (k:Nat)(A:Around):Prop where
 hd:A.handled=none
 dp:A.depth+3*k+5<recursionLimit
 un:A.units+16*k+200<cLine
 gd:A.guards=some []
theorem dM.mono {j k:Nat}{A:Around}(r:dM k A)(h:j<=k):dM j A:=⟨r.hd,by have:=r.dp;omega,by have:=r.un;omega,r.gd⟩
theorem dM.deeper {k:Nat}{A:Around}(r:dM (k+1) A)(env:Env):dM k (A.deeper env):=
 ⟨r.hd,by have:=r.dp;show A.depth+1+3*k+5<_;omega,by have:=r.un;show A.units+3+16*k+200<_;omega,r.gd⟩
theorem dM.in1 {k:Nat}{A:Around}(r:dM (k+1) A):dM k A.in1:=
 ⟨r.hd,by have:=r.dp;show A.depth+3*k+5<_;omega,by have:=r.un;show A.units+1+16*k+200<_;omega,r.gd⟩
theorem dM.depth {k:Nat}{A:Around}(r:dM k A):A.depth<recursionLimit:=by have:=r.dp;omega
theorem dM.units {k:Nat}{A:Around}(r:dM k A):A.units+64<cLine:=by have:=r.un;omega
noncomputable def DN:TA:=fun _ H Q=>Q [] H
noncomputable def qA (ta:TE)(tr:TA):TA:=fun σ H Q=>ta σ H fun x H1=>tr σ H1 fun xs H2=>Q (x::xs) H2
section
variable {X:Cx}{e:Expr}{es:List Expr}{te:TE}{t:TA}{pos:Pos}
theorem ag:PA X [] DN:=fun _ _ _ _ H Q I h=>Calls.spliced_nil ⟨[],H,I,.nil,h⟩
theorem aa (ha:PE X e te)(hr:PA X es t)(hs:starEach (e::es) X.env=(false,eval e X.env)::starEach es X.env:=by rfl):PA X (e::es) (qA te t):=by
 intro pos pins s σ H Q I h
 rw[hs]
 show wpAny _ _ (spliced ((false,eval e X.env)::backTo pos (starEach es X.env))) _ _ s
 refine Calls.spliced_cons (aZ (ha s σ H _ I h) fun u s1 hz_ =>?_)
 refine ae.el hz_ _ ?_
 clear hz_
 rintro x H1 I1 r1 q1
 exact aZ (hr s1 σ H1 _ I1 q1) fun us s2 hz_=>ae.el hz_ _ fun xs H2 I2 r2 q2=>⟨x::xs,H2,I2,.cons r1 r2,q2⟩
def Hr (t:TA):TE:=fun σ H Q=>t σ H fun xs H1=>xs.length<=sizeLine/\∀p,H1 p=none->Q (.ref p) (upd H1 p (.tup xs))
def Gw (t:TA):TE:=fun σ H Q=>t σ H fun xs H1=>xs.length<=sizeLine/\∀p,H1 p=none->Q (.ref p) (upd H1 p (.lst xs))
theorem CC {x1}(h:PA X es t):PE X (.Tuple es x1 pos) (Hr t):=by
 intro pins s σ H Q I hq
 refine wpAny_Tuple_spliced (aZ (h s σ H _ I hq) fun us s1 ⟨xs,H1,I1,r,z,q⟩=>⟨by rw[<-r.length];exact z,?_⟩)
 have hf:H1 s1.heap.objs.size=none:=I1.bb.fresh (Je _)
 refine⟨.ref s1.heap.objs.size,upd H1 s1.heap.objs.size (.tup xs),I1.laid (t':=s1.toks) (fun b u e=>Jc _ e) (Je _) ?_,rfl,q _ hf⟩
 exact⟨z,us,r,⟨_,Js _ rfl,rfl,_,rfl⟩⟩
theorem CB (h:PA X es t):PE X (.List es pos) (Gw t):=by
 intro pins s σ H Q I hq
 refine wpAny_List_spliced (aZ (h s σ H _ I hq) fun us s1 ⟨xs,H1,I1,r,z,q⟩=>⟨by rw[<-r.length];exact z,?_⟩)
 have hf:H1 s1.heap.objs.size=none:=I1.bb.fresh (Je _)
 refine⟨.ref s1.heap.objs.size,upd H1 s1.heap.objs.size (.lst xs),I1.laid (t':=s1.toks) (fun b u e=>Jc _ e) (Je _) ?_,rfl,q _ hf⟩
 exact⟨z,us,0,r,Js _ rfl⟩
end
abbrev Sp:=List V->Hp->VK->XK->Prop
abbrev uy:=List Env->Hp->Shared->XK->Value->Shared->Prop
structure sG (P:Program)(w:World)(K:Jb)(mg:Str->Option Value)(base:Heap)(A:Around)(outer:List Env)(s:Shared)(H:Hp):Prop where
 frames:A.frames=some outer
 mod:Mod K mg base
 bs:∀b o,base.get? b=some o->s.heap.get? b=some o/\H b=none
 bsz:base.objs.size<=s.heap.objs.size
 jv:s.heap.FunFrames base outer
 vV:∀b∈nq outer,H b=none
 bb:fK P w H s.heap
 bare:AllBare s.gens
def CE (outer:List Env)(P:Program)(w:World)(H:Hp)(s:Shared)(Q:VK)(u:Value)(s':Shared):Prop:=
 cq fun v H'=>s'.os=s.os/\AllBare s'.gens/\Un (nq outer) [] H H' s.heap s'.heap/\fK P w H' s'.heap/\RelV v u/\Q v H'
def CR (CX:uy)(outer:List Env)(P:Program)(w:World)(H:Hp)(s:Shared)(Q:VK)(E:XK)(r:Result)(s':Shared):Prop:=
 match r with
 | .ok (.ret u)=>CE outer P w H s Q u s'
 | .ok _=>False
 | .error e=>CX outer H s E e s'
structure bW (P:Program)(w:World)(K:Jb)(mg:Str->Option Value)(base:Heap)(CX:uy)(k:Nat)(f:Addr)(fd:FuncData)(ps:List Str)(sp:Sp):Prop where
 len:∀vs H Q E,sp vs H Q E->vs.length=ps.length
 run:∀(A:Around) (outer:List Env) (s:Shared) (H:Hp) (args:Args) (us:List Value) (vs:List V) (Q:VK) (E:XK),dM k A->sG P w K mg base A outer s H->BindsTo s fd args (ps.zip us)->Vals vs us->sp vs H Q E ->
  codeAny (model P w) A (.call (.ref f) args) (CR CX outer P w H s Q E) s
theorem bW.mono {P:Program}{w:World}{K:Jb}{mg:Str->Option Value}{base:Heap}{CX:uy}{j k:Nat}{f:Addr}{fd:FuncData}{ps:List Str}{sp:Sp}(F:bW P w K mg base CX j f fd ps sp)(h:j<=k):
  bW P w K mg base CX k f fd ps sp:=⟨F.len,fun A outer s H args us vs Q E hr=>F.run A outer s H args us vs Q E (hr.mono h)⟩
theorem bW.imp {P:Program}{w:World}{K:Jb}{mg:Str->Option Value}{base:Heap}{CX:uy}{k:Nat}{f:Addr}{fd:FuncData}{ps:List Str}{sp EN:Sp}(F:bW P w K mg base CX k f fd ps sp)
  (h:∀vs H Q E,EN vs H Q E->sp vs H Q E):bW P w K mg base CX k f fd ps EN:=
 ⟨fun vs H Q E q=>F.len vs H Q E (h _ _ _ _ q),fun A outer s H args us vs Q E hr he hb hv hs=>F.run A outer s H args us vs Q E hr he hb hv (h _ _ _ _ hs)⟩
theorem sG.in1 {P:Program}{w:World}{K:Jb}{mg:Str->Option Value}{base:Heap}{A:Around}{outer:List Env}{s:Shared}{H:Hp}(e:sG P w K mg base A outer s H):
  sG P w K mg base A.in1 outer s H:=⟨e.frames,e.mod,e.bs,e.bsz,e.jv,e.vV,e.bb,e.bare⟩
section
variable {X:Cx}{pins:List (Addr×Obj)}{σ:St}{H:Hp}{s s':Shared}
theorem Inv.Dj (I:Inv X pins σ H s):sG X.prog X.w X.K X.mg X.base X.A X.stack s H:=
 ⟨I.ok.frames,I.ok.mod,I.bs,Jr I.ok.bsz I.sz,I.stack,I.tR,I.bb,I.bare⟩
theorem Inv.after {Q:VK}{u:Value}(I:Inv X pins σ H s)(h:CE X.stack X.prog X.w H s Q u s'):EP X pins σ Q u s':=by
 obtain⟨v,H',os,bare,un,bb,r,q⟩:=h
 obtain⟨hh,g,d,t,os'⟩:=s'
 obtain rfl:os'=s.os:=os
 exact⟨v,H',I.call (h':=hh) (g':=g) (d':=d) (t':=t) (ch:=[]) un bb bare (fun b z=>absurd z (by simp)),r,q⟩
end
def sT (sp:Sp)(Bo:List V)(E:XK)(t:TA):TE:=fun σ H Q=>t σ H fun vs H1=>sp (vs++Bo) H1 Q E
def Binds (K:Jb)(fd:FuncData)(ps:List Str)(ds:List Value):Prop:=
 ∀(s:Shared) (us:List Value),K.In s.heap->(us++ds).length=ps.length->BindsTo s fd ⟨us,[]⟩ (ps.zip (us++ds))
theorem Binds.all {K:Jb}{fd:FuncData}{ps:List Str}(h:∀us:List Value,us.length=ps.length->bindArgs fd ⟨us,[]⟩=pure (ps.zip us)):Binds K fd ps []:=fun s us _ hl=>by
 rw[U6] at hl ⊢
 exact .of_eq (h us hl)
def Passes (CX:uy)(X:Cx)(E:XK):Prop:=∀(pins:List (Addr×Obj)) (σ:St) (H:Hp) (s:Shared) (e:Value) (s':Shared),Inv X pins σ H s->CX X.stack H s E e s'->X.xe e s'
section
variable {X:Cx}{CX:uy}{k:Nat}{f C:Addr}{fd:FuncData}{ps:List Str}{sp:Sp}{Bo:List V}{ds:List Value}{E:XK}{x m:Str}{p pos apos:Pos}{e o:Expr}{es:List Expr}{ta:TE}{t:TA}
theorem Cd {pins:List (Addr×Obj)}{σ:St}{H:Hp}{s:Shared}{Q:VK}{us:List Value}{vs:List V}(F:bW X.prog X.w X.K X.mg X.base CX k f fd ps sp)(hr:dM k X.A)(hb:Binds X.K fd ps ds)(hd:Vals Bo ds)(hx:Passes CX X E)
  (I:Inv X pins σ H s) (r:Vals vs us) (h:sp (vs++Bo) H Q E):wpAny (model X.prog X.w) X.A (call (.ref f) us) (EP X pins σ Q) X.xe s:=by
 have r2:Vals (vs++Bo) (us++ds):=r.append hd
 have hl:(us++ds).length=ps.length:=by rw[<-r2.length];exact F.len _ _ _ _ h
 refine wpAny_call (codeAny_mono (F.run X.A X.stack s H ⟨us,[]⟩ (us++ds) (vs++Bo) Q E hr I.Dj (hb s us I.oW hl) r2 h) fun r s' hq =>?_)
 cases r with
 | error e=>exact hx pins σ H s e s' I hq
 | ok fl=>
  cases fl with
  | ret u=>exact I.after hq
  | next=>exact False.elim hq
  | brk=>exact False.elim hq
  | cont=>exact False.elim hq
theorem zT (F:bW X.prog X.w X.K X.mg X.base CX k f fd ps sp)(hr:dM k X.A)(hg:Gl X x)(hm:X.mg x=some (.ref f))(hk:PySem.W.keepIn X.K (.ref f)=true)(hb:Binds X.K fd ps ds)(hd:Vals Bo ds)(hx:Passes CX X E)
  (ha:PA X (e::es) t) (A7:(x==("__debug__" : Str))=false:=by decide) (he:starEach (e::es) X.env=(false,eval e X.env)::starEach es X.env:=by rfl) (oY:(backTo pos (starEach es X.env)).any (·.1)=false:=by rfl) :
  PE X (.Call (.Name x p) (e::es) [] pos) (sT sp Bo E t):=by
 intro pins s σ H Q I h
 refine wpAny_Call_Name_kw (tX I hg hm ?_ A7)
 refine PySem.W.callWith_K (h₀:=X.base) I.ok.mod.kin hk (aZ (ha s σ H _ I h) fun us s1 hz_=>ae.el hz_ _ fun vs H1 I1 r q=>⟨I1.oW,?_⟩) he oY
 exact Cd F hr hb hd hx I1 r q
end
def PK (X:Cx)(wF:List Keyword)(t:TA):Prop:=
 ∀ ⦃pos:Pos⦄ ⦃pins:List (Addr×Obj)⦄ (s:Shared) (σ:St) (H:Hp) (Q:List V->Hp->Prop),Inv X pins σ H s->t σ H Q->wpAny (model X.prog X.w) X.A (evalAll ((backToKw pos (keywordEach wF X.env)).map (·.2))) (AP X pins σ Q) X.xe s
section
variable {X:Cx}{CX:uy}{k:Nat}{f C:Addr}{fd:FuncData}{ps ks:List Str}{sp:Sp}{E:XK}{x m:Str}{p pos apos IY:Pos}{e o:Expr}{es:List Expr}{wF:List Keyword}{te ta:TE}{t tk:TA}{nm:Option Str}
theorem rH:PK X [] DN:=fun _ _ _ _ H Q I h=>wpAny_evalAll_nil ⟨[],H,I,.nil,h⟩
theorem mZ (ha:PE X e te)(hr:PK X wF t):PK X (⟨nm,e,IY⟩::wF) (qA te t):=by
 intro pos pins s σ H Q I h
 show wpAny _ _ (evalAll ((do let v <-eval e X.env;standAt pos;pure v)::(backToKw pos (keywordEach wF X.env)).map (·.2))) _ _ s
 refine wpAny_evalAll_cons (wpAny_bind (aZ (ha s σ H _ I h) fun u s1 hz_=>ae.el hz_ _ fun x H1 I1 r1 q1=>wpAny_bind (wpAny_standAt (wpAny_pure ?_))))
 exact aZ (hr s1 σ H1 _ I1 q1) fun us s2 hz_=>ae.el hz_ _ fun xs H2 I2 r2 q2=>⟨x::xs,H2,I2,.cons r1 r2,q2⟩
variable {g:List Value->List Value->List Value}{gV:List V->List V->List V}
end
structure aO (N P:List Str)(sc:Scope):Prop where
 kind:sc.kind = .function
 co:sc.isCoroutine=false
 gen:sc.isGenerator=false
 nd:N.Nodup
 pre:N.take P.length=P
 par:∀x∈P,sc.names.lookup x=some .local∨sc.names.lookup x=some .cell
 nofree:∀y∈sc.names,y.2 ≠ .free
theorem mI {kindOf:Str->Option NameKind}{x:Str}:∀{binds:List (Str×Value)} {m:Str->Option Value},(∀v,(x,v)∉binds)->bindL kindOf binds m x=m x
 | [],_,_=>rfl
 | (n,v)::r,m,h=>by
  unfold bindL
  rw[mI fun w hw=>h w (Jn _ hw)]
  split
  ·have:x≠n:=by rintro rfl;exact h v Jq
   simp[this]
  ·rfl
theorem mP {kindOf:Str->Option NameKind}{x:Str}:∀{binds:List (Str×Value)} {m:Str->Option Value},(∀v,(x,v)∉binds)->bindC kindOf binds m x=m x
 | [],_,_=>rfl
 | (n,v)::r,m,h=>by
  unfold bindC
  rw[mP fun w hw=>h w (Jn _ hw)]
  split
  ·rfl
  ·have:x≠n:=by rintro rfl;exact h v Jq
   simp[this]
theorem mH {kindOf:Str->Option NameKind}{x:Str}{v:Value}:∀{P:List Str} {vs:List Value} {i:Nat} {m:Str->Option Value},P.Nodup->P[i]? = some x->vs[i]? = some v->kindOf x=some .local ->
  bindL kindOf (P.zip vs) m x=some v
 | [],_,_,_,_,h,_,_=>by simp at h
 | _::_,[],_,_,_,_,h,_=>by simp at h
 | p::P,w::vs,0,m,nd,h1,h2,hk=>by
  simp at h1 h2;subst h1;subst h2
  show bindL kindOf ((p,w)::P.zip vs) m p=_
  unfold bindL
  rw[mI fun v hv=>(U1.mp nd).1 (Wb hv).1,if_pos hk]
  simp
 | p::P,w::vs,i+1,m,nd,h1,h2,hk=>by
  show bindL kindOf ((p,w)::P.zip vs) m x=_
  unfold bindL
  exact mH (i:=i) (U1.mp nd).2 (by simpa using h1) (by simpa using h2) hk
theorem mx {kindOf:Str->Option NameKind}{x:Str}{v:Value}:∀{P:List Str} {vs:List Value} {i:Nat} {m:Str->Option Value},P.Nodup->P[i]? = some x->vs[i]? = some v->kindOf x≠some .local ->
  bindC kindOf (P.zip vs) m x=some v
 | [],_,_,_,_,h,_,_=>by simp at h
 | _::_,[],_,_,_,_,h,_=>by simp at h
 | p::P,w::vs,0,m,nd,h1,h2,hk=>by
  simp at h1 h2;subst h1;subst h2
  show bindC kindOf ((p,w)::P.zip vs) m p=_
  unfold bindC
  rw[mP fun v hv=>(U1.mp nd).1 (Wb hv).1,if_neg hk]
  simp
 | p::P,w::vs,i+1,m,nd,h1,h2,hk=>by
  show bindC kindOf ((p,w)::P.zip vs) m x=_
  unfold bindC
  exact mx (i:=i) (U1.mp nd).2 (by simpa using h1) (by simpa using h2) hk
noncomputable def start (N:List Str)(vs:List V):St:=vs.map some++Jp (N.length-vs.length) none
noncomputable def oX (CX:uy)(P:Program)(w:World)(K:Jb)(mg:Str->Option Value)(base:Heap)(N:List Str)(qual:Str)(scope:Scope)(f:Addr)(cd:Value)(A:Around)(outer:List Env)(s:Shared)(H:Hp)(E:XK):Cx where
 prog:=P
 w:=w
 K:=K
 mg:=mg
 base:=base
 A:=A.deeper (envOfC qual scope s.heap.objs.size f cd)
 N:=N
 s₀:=s
 H₀:=H
 env:=envOfC qual scope s.heap.objs.size f cd
 outer:=outer
 stack:=envOfC qual scope s.heap.objs.size f cd::outer
 ex:=[]
 calm:=true
 fn:=fun _=>true
 pn:=[]
 xe:=fun e s'=>wpAny (model P w) (A.deeper (envOfC qual scope s.heap.objs.size f cd)) (leaving (envOfC qual scope s.heap.objs.size f cd) e) (fun _ s''=>CX outer H s E e s'') (fun e' s''=>CX outer H s E e' s'') s'
theorem pT {sc:Scope}{n:Nat}{x:Str}(h:sc.names.lookup x=some .cell):∃c,(cellsFrom n sc.names []).lookup x=some c:=by
 have q:=PySem.W.cellsFrom_some sc.names n [] (.inl h)
 exact Option.isSome_iff_exists.mp q
theorem mQ {CX:uy}{P:Program}{w:World}{K:Jb}{mg:Str->Option Value}{base:Heap}{N ps:List Str}{qual:Str}{scope:Scope}{f:Addr}{cd:Value}{A:Around}{outer:List Env}{s s1:Shared}{H:Hp}{E:XK}{us:List Value}{vs:List V}
  (S:aO N ps scope) (hd:A.handled=none) (e0:sG P w K mg base A outer s H) (hl:vs.length=ps.length) (r:Vals vs us)
  (x:InCallC s s.heap.objs.size (bindL (envOfC qual scope s.heap.objs.size f cd).kindOf (ps.zip us) fun _=>none) (cellsFrom (s.heap.objs.size+1) scope.names []) (bindC (envOfC qual scope s.heap.objs.size f cd).kindOf (ps.zip us) fun _=>none) s1) :
  Inv (oX CX P w K mg base N qual scope f cd A outer s H E) [] (start N vs) H s1:=by
 have oY:ps.length<=N.length:=by have:=congrArg Yj S.pre;rw[J1] at this;omega
 obtain⟨h1,tk,rfl,hk⟩:=x.done
 have LK:∀b:Addr,b∉(oX CX P w K mg base N qual scope f cd A outer s H E).ex:=fun b z=>absurd (show b∈([]:List Addr) from z) (by simp)
 refine⟨⟨e0.mod,S.kind,rfl,rfl,Je _,fun y z c h1 h2 =>?_,fun y hy =>?_,fun y c _ h =>?_,fun _=>hd,Around.frames_deeper e0.frames,.inr ⟨rfl,rfl⟩,fun b z=>absurd z (LK b),e0.bs,e0.bsz,fun b _ _=>LK b,fun b z=>absurd z (LK b),e0.jv,e0.vV⟩,
  rfl,e0.bare,Un.kept hk,⟨_,x.toInCall.ns,fun i y v h1 h2 h3 =>?_⟩,fun y c h=>⟨_,x.cell y c h⟩,e0.bb.fresh (Je _),fun y c h =>?_,fun p hp=>absurd (show p∈([]:List (Addr×Obj)) from hp) (by simp),e0.bb.kept hk,?_⟩
 ·exact name_of_addr x.apart (PySem.mem_of_lookup h1) (PySem.mem_of_lookup h2)
 ·have hy:scope.names.lookup y=some .cell∨scope.names.lookup y=some .free:=hy
  rcases hy with hy|hy
  ·exact pT hy
  ·exact absurd rfl (S.nofree _ (PySem.mem_of_lookup hy))
 ·exact Uy (x.above y c (PySem.mem_of_lookup h))
 ·have hi:i<vs.length:=by
   unfold start at h2
   by_cases hi:i<vs.length
   ·exact hi
   ·rw[Jz (by simpa using hi)] at h2
    rw[U0] at h2
    split at h2<;>cases h2
  have ha:vs[i]? = some v:=by
   unfold start at h2
   rw[J6 (by simpa using hi),Jk] at h2
   cases e:vs[i]? with
   | none=>rw[e] at h2;cases h2
   | some a=>rw[e] at h2;cases h2;rfl
  obtain⟨u,hu,rv⟩:=r.get ha
  have hp:ps[i]? = some y:=by
   rw[<-S.pre,List.getElem?_take_of_lt (by omega)];exact h1
  have NK:ps.Nodup:=by rw[<-S.pre];exact S.nd.sublist (Y5 _ _)
  refine⟨u,rv,?_⟩
  rcases S.par y (Wd hp) with k|k
  ·exact .inl ⟨k,mH NK hp hu k⟩
  ·obtain⟨c,e⟩:=pT (n:=s.heap.objs.size+1) k
   refine .inr ⟨.inl k,c,e,?_⟩
   have q:=x.cell y c e
   rw[mx NK hp hu (by show scope.names.lookup y≠_;rw[k];decide)] at q
   exact q
 ·exact e0.bb.fresh (Uy (x.above y c (PySem.mem_of_lookup h)))
 ·unfold start
  show _=N.length
  rw[Jf,Ja,Uo]
  omega
theorem BA {CX:uy}{P:Program}{w:World}{K:Jb}{mg:Str->Option Value}{base:Heap}{k:Nat}{f:Addr}{name qual:Str}{params:Arguments}{body:List Stmt}{scope:Scope}{dV kV doc pm dZ ct oc:Value}{an od:Option Addr}
  {AO:Array (Option Value)} {N ps:List Str} {sp:Sp} (lk:K.lookup f=some ⟨oc,od,.func (We name qual params body scope dV kV doc pm an dZ ct),AO⟩) (pU:PySem.W.codeIn K dZ qual=true) (S:aO N ps scope)
  (len:∀vs H Q E,sp vs H Q E->vs.length=ps.length)
  (kN:∀(A:Around) (outer:List Env) (s:Shared) (H:Hp) (vs:List V) (Q:VK) (E:XK),dM k (A.deeper (envOfC qual scope s.heap.objs.size f dZ))->sp vs H Q E ->
   ∃t,tH (oX CX P w K mg base N qual scope f dZ A outer s H E) body t/\t { nx:=fun _ H'=>Q .non H',rt:=Q } (start N vs) H) :
  bW P w K mg base CX (k+1) f (We name qual params body scope dV kV doc pm an dZ ct) ps sp:=by
 refine⟨len,fun A outer s H args us vs Q E hr e0 hb r yU =>?_⟩
 have hl:=len _ _ _ _ yU
 have KX:K.In s.heap:=e0.mod.kin.keeps fun b o e=>(e0.bs b o e).1
 have lim:s.heap.NoLimit:=e0.mod.nolimit.keeps fun b o e=>(e0.bs b o e).1
 have xD:∀y∈ps.zip us,scope.names.lookup y.1=some .local∨(scope.names.lookup y.1=some .cell/\((cellsFrom (s.heap.objs.size+1) scope.names []).lookup y.1).isSome=true):=fun⟨n,v⟩ hy=>by
  rcases S.par n (Wb hy).1 with q|q
  ·exact .inl q
  ·exact .inr ⟨q,PySem.W.cellsFrom_some _ _ _ (.inl q)⟩
 refine codeAny_call_function hr.depth (KX _ _ lk) rfl S.co S.gen rfl (PySem.W.codeRec_of KX pU) (hb _ _ _ _ ?_)
 refine wpAny_newFunctionEnv_cells S.kind xD fun env he s1 x =>?_
 subst he
 refine⟨lim.keeps x.toInCall.keep,codeAny_func ?_⟩
 obtain⟨t,ht,hq⟩:=kN A outer s H vs Q E (hr.deeper _) yU
 have I:Inv (oX CX P w K mg base N qual scope f dZ A outer s H E) [] (start N vs) H s1:=mQ S hr.hd e0 hl r x
 refine wpAny_mono (ht s1 (start N vs) H _ I hq) (fun fl s' hs =>?_) fun e s' hs=>hs
 have fin:∀{σ':St} {H':Hp} {v:V} {u:Value},Inv (oX CX P w K mg base N qual scope f dZ A outer s H E) [] σ' H' s'->RelV v u->Q v H'->CE outer P w H s Q u s':=
  fun{σ' H' v u} J rv q=>⟨v,H',J.os,J.bare,J.base,J.bb,rv,q⟩
 cases fl with
 | ret u=>
  obtain⟨v,σ',H',J,rv,q⟩:=hs
  exact fin J rv q
 | next=>
  obtain⟨σ',H',J,q⟩:=hs
  exact fin (v:=V.non) (u:=Value.none) J rfl q
 | brk=>
  obtain⟨_,_,_,q⟩:=hs
  exact False.elim q
 | cont=>
  obtain⟨_,_,_,q⟩:=hs
  exact False.elim q
section
variable {X:Cx}{x:Str}{p pos:Pos}{e:Expr}{es:List Expr}{t:TA}{id T:String}{r:List V->Hp->VK->Prop}
def HV (r:List V->Hp->VK->Prop)(t:TA):TE:=fun σ H Q=>t σ H fun vs H1=>r vs H1 Q
theorem aw (hc:cj X (.builtin id) r)(hg:Gl X x)(hm:X.mg x=none)(hv:bootBuiltins x=some (.builtin id))(ha:PA X (e::es) t)(hn:x ≠ "__name__":=by decide)(A7:(x==("__debug__" : Str))=false:=by decide)
  (he:starEach (e::es) X.env=(false,eval e X.env)::starEach es X.env:=by rfl) (oY:(backTo pos (starEach es X.env)).any (·.1)=false:=by rfl):PE X (.Call (.Name x p) (e::es) [] pos) (HV r t):=by
 intro pins s σ H Q I h
 refine wpAny_Call_Name_kw (gr I hg hm hv ?_ hn A7)
 exact PyProof.Rows.callWith_builtin1 (aZ (ha s σ H _ I h) fun us s1 hz_=>ae.el hz_ _ fun vs H1 I1 r1 q1=>hc s1 σ H1 vs us Q I1 r1 q1) he oY
theorem cC (hc:cj X (.type T) r)(hg:Gl X x)(hm:X.mg x=none)(hv:bootBuiltins x=some (.type T))(ha:PA X (e::es) t)(hn:x ≠ "__name__":=by decide)(A7:(x==("__debug__" : Str))=false:=by decide)
  (he:starEach (e::es) X.env=(false,eval e X.env)::starEach es X.env:=by rfl) (oY:(backTo pos (starEach es X.env)).any (·.1)=false:=by rfl):PE X (.Call (.Name x p) (e::es) [] pos) (HV r t):=by
 intro pins s σ H Q I h
 refine wpAny_Call_Name_kw (gr I hg hm hv ?_ hn A7)
 exact PyProof.Rows.callWith_type1 (aZ (ha s σ H _ I h) fun us s1 hz_=>ae.el hz_ _ fun vs H1 I1 r1 q1=>hc s1 σ H1 vs us Q I1 r1 q1) he oY
end
section
variable {κ:Type}[DecidableEq κ]
noncomputable def aW (kvs:List (κ×V))(k: κ):Option V:=(kvs.find? fun kv=>decide (kv.1=k)).map (·.2)
noncomputable def putK (kvs:List (κ×V))(k: κ)(v:V):List (κ×V):=
 if (kvs.any fun kv=>decide (kv.1=k))=true then kvs.map (fun kv=>if kv.1=k then (kv.1,v) else kv) else kvs++[(k,v)]
theorem ck {p: κ×V}{r:List (κ×V)}{k: κ}(e:p.1=k):aW (p::r) k=some p.2:=by simp[aW,List.find?_cons,e]
theorem bU {p: κ×V}{r:List (κ×V)}{k: κ}(e:¬p.1=k):aW (p::r) k=aW r k:=by simp[aW,List.find?_cons,e]
theorem d6 (k: κ):∀kvs:List (κ×V),(kvs.any fun kv=>decide (kv.1=k))=(aW kvs k).isSome
 | []=>rfl
 | p::r=>by
  rw[List.any_cons]
  by_cases e:p.1=k
  ·simp only[ck e,decide_eq_true e,Bool.true_or,Option.isSome_some]
  ·rw[bU e,decide_eq_false e,Bool.false_or];exact d6 k r
theorem qx (k j: κ)(y:V):∀kvs:List (κ×V),aW (kvs.map fun kv=>if kv.1=k then (kv.1,y) else kv) j=(aW kvs j).map fun x=>if j=k then y else x
 | []=>rfl
 | p::r=>by
  have ih:=qx k j y r
  rw[Uj]
  by_cases h:p.1=k
  ·rw[if_pos h]
   by_cases e:p.1=j
   ·rw[ck (p:=(p.1,y)) e,ck e,Option.map_some,if_pos (e.symm.trans h)]
   ·rw[bU (p:=(p.1,y)) e,bU e,ih]
  ·rw[if_neg h]
   by_cases e:p.1=j
   ·rw[ck (p:=p) e,ck e,Option.map_some,if_neg (fun z=>h (e.trans z))]
   ·rw[bU (p:=p) e,bU e,ih]
theorem iZ (k j: κ)(y:V):∀kvs:List (κ×V),aW kvs k=none->aW (kvs++[(k,y)]) j=if j=k then some y else aW kvs j
 | [],_=>by
  by_cases e:k=j
  ·rw[if_pos e.symm];exact ck (p:=(k,y)) e
  ·rw[if_neg (fun z=>e z.symm)];exact bU (p:=(k,y)) e
 | p::r,hn=>by
  rw[List.cons_append]
  have hk:¬p.1=k:=fun z=>by rw[ck z] at hn;cases hn
  rw[bU hk] at hn
  have ih:=iZ k j y r hn
  by_cases e:p.1=j
  ·rw[ck e,ck e,if_neg (fun z=>hk (e.trans z))]
  ·rw[bU e,bU e,ih]
theorem pM (kvs:List (κ×V))(k j: κ)(y:V):aW (putK kvs k y) j=if j=k then some y else aW kvs j:=by
 unfold putK
 by_cases a:(kvs.any fun kv=>decide (kv.1=k))=true
 ·rw[if_pos a,qx]
  rw[d6] at a
  by_cases e:j=k
  ·obtain⟨x,hx⟩:=Option.isSome_iff_exists.mp a
   rw[if_pos e,e,hx,Option.map_some,if_pos rfl]
  ·rw[if_neg e]
   cases aW kvs j with
   | none=>rfl
   | some x=>rw[Option.map_some,if_neg e]
 ·rw[if_neg a]
  refine iZ k j y kvs ?_
  rw[d6] at a
  cases q:aW kvs k with
  | none=>rfl
  | some x=>rw[q] at a;exact(a rfl).elim
theorem dF (kvs:List (κ×V))(k: κ)(v:V):(putK kvs k v).length<=kvs.length+1:=by
 unfold putK
 split
 ·rw[Ja];omega
 ·rw[Jf,J0,Yn];omega
theorem dH {kvs:List (κ×V)}{k: κ}(v:V)(h:aW kvs k=none):putK kvs k v=kvs++[(k,v)]:=by
 unfold putK
 rw[d6,h]
 exact if_neg (by decide)
theorem jj.fg {o:Option V}{u:Option Value}(r:jj o u):o.isSome=u.isSome:=by
 cases o with
 | none=>cases u with
  | none=>rfl
  | some _=>exact(show False from r).elim
 | some _=>cases u with
  | none=>exact(show False from r).elim
  | some _=>rfl
theorem jj.getD {o:Option V}{u:Option Value}{d:V}{d':Value}(r:jj o u)(rd:RelV d d'):RelV (o.getD d) (u.getD d'):=by
 cases o with
 | none=>cases u with
  | none=>exact rd
  | some _=>exact(show False from r).elim
 | some _=>cases u with
  | none=>exact(show False from r).elim
  | some _=>exact r
theorem KV.val {kvs:List (κ×V)}{vs:List (κ×Value)}(r:KV kvs vs)(k: κ):jj (aW kvs k) (valueAt vs k):=by
 unfold KV at r
 induction r with
 | nil=>exact True.intro
 | @cons p q ps qs h t ih=>
  obtain⟨h1,h2⟩:=h
  by_cases e:p.1=k
  ·have e':q.1=k:=h1.symm.trans e
   have b:valueAt (q::qs) k=some q.2:=by simp[valueAt,List.find?_cons,e']
   rw[ck e,b];exact h2
  ·have e':¬q.1=k:=fun z=>e (h1.trans z)
   have b:valueAt (q::qs) k=valueAt qs k:=by simp[valueAt,List.find?_cons,e']
   rw[bU e,b];exact ih
theorem KV.any {kvs:List (κ×V)}{vs:List (κ×Value)}(r:KV kvs vs)(k: κ):(kvs.any fun kv=>decide (kv.1=k))=vs.any fun kv=>decide (kv.1=k):=by
 unfold KV at r
 induction r with
 | nil=>rfl
 | cons h t ih=>rw[List.any_cons,List.any_cons,ih,h.1]
theorem KV.Dd {kvs:List (κ×V)}{vs:List (κ×Value)}(r:KV kvs vs)(k: κ){y:V}{u:Value}(ry:RelV y u):
  KV (kvs.map fun kv=>if kv.1=k then (kv.1,y) else kv) (vs.map fun kv=>if kv.1=k then (kv.1,u) else kv):=by
 unfold KV at r ⊢
 induction r with
 | nil=>exact .nil
 | @cons p q ps qs h t ih=>
  rw[Uj,Uj]
  refine .cons ?_ ih
  obtain⟨h1,h2⟩:=h
  by_cases e:p.1=k
  ·rw[if_pos e,if_pos (h1.symm.trans e)];exact⟨h1,ry⟩
  ·rw[if_neg e,if_neg (fun z=>e (h1.trans z))];exact⟨h1,h2⟩
theorem KV.put {kvs:List (κ×V)}{vs:List (κ×Value)}(r:KV kvs vs)(k: κ){y:V}{u:Value}(ry:RelV y u):KV (putK kvs k y) (stored vs k u):=by
 unfold putK stored
 rw[r.any k]
 by_cases e:(vs.any fun kv=>decide (kv.1=k))=true
 ·rw[if_pos e,if_pos e];exact r.Dd k ry
 ·rw[if_neg e,if_neg e];exact Paired.snoc r ⟨rfl,ry⟩
theorem KV.length {kvs:List (κ×V)}{vs:List (κ×Value)}(r:KV kvs vs):kvs.length=vs.length:=Paired.length r
end
theorem iV {P:Program}{w:World}{k:Key}{u:Value}(r:RelV (kV k) u):(aR P w).is k u=true:=by
 cases k with
 | inl i=>obtain⟨t,e⟩:=(show ∃t,u=Value.int i t from r);subst e;exact qu P w i t
 | inr x=>obtain⟨t,e⟩:=(show ∃t,u=Value.str x t from r);subst e;exact qN P w x t
theorem mW {P:Program}{w:World}:∀{ks:List Key} {us:List Value},Vals (ks.map kV) us->ItemsAre (aR P w) ks us
 | [],_,r=>by rw[List.map_nil] at r;cases r;exact .nil
 | k::ks,_,r=>by
  rw[Uj] at r
  cases r with
  | cons h t=>exact .cons (iV h) (mW t)
abbrev KT (H:Hp):List (List Key×V)->List (List Key×Addr×Value)->Prop:=Paired fun p q=>p.1=q.1/\H q.2.1=some (.tup (p.1.map kV))/\RelV p.2 q.2.2
theorem KT.val {H:Hp}{kvs:List (List Key×V)}{xs:List (List Key×Addr×Value)}(r:KT H kvs xs)(k:List Key):jj (aW kvs k) ((atKey xs k).map (·.2)):=by
 induction r with
 | nil=>exact True.intro
 | @cons p q ps qs h t ih=>
  obtain⟨h1,_,h2⟩:=h
  by_cases e:p.1=k
  ·have e':q.1=k:=h1.symm.trans e
   have b:atKey (q::qs) k=some q.2:=by simp[atKey,List.find?_cons,e']
   rw[ck e,b];exact h2
  ·have e':¬q.1=k:=fun z=>e (h1.trans z)
   have b:atKey (q::qs) k=atKey qs k:=by simp[atKey,List.find?_cons,e']
   rw[bU e,b];exact ih
theorem KT.Dd {H:Hp}{kvs:List (List Key×V)}{xs:List (List Key×Addr×Value)}(r:KT H kvs xs)(k:List Key){y:V}{u:Value}(ry:RelV y u):
  KT H (kvs.map fun kv=>if kv.1=k then (kv.1,y) else kv) (xs.map (putAt k u)):=by
 induction r with
 | nil=>exact .nil
 | @cons p q ps qs h t ih=>
  rw[Uj,Uj]
  refine .cons ?_ ih
  obtain⟨h1,h2,h3⟩:=h
  unfold putAt
  by_cases e:p.1=k
  ·rw[if_pos e,if_pos (h1.symm.trans e)];exact⟨h1,h2,ry⟩
  ·rw[if_neg e,if_neg (fun z=>e (h1.trans z))];exact⟨h1,h2,h3⟩
theorem KT.put {H:Hp}{kvs:List (List Key×V)}{xs:List (List Key×Addr×Value)}(r:KT H kvs xs)(k:List Key){b:Addr}{y:V}{u:Value}(hb:H b=some (.tup (k.map kV)))(ry:RelV y u):
  KT H (putK kvs k y) (storedH xs k b u):=by
 have e:(kvs.any fun kv=>decide (kv.1=k))=(atKey xs k).isSome:=by
  rw[d6,(r.val k).fg,Option.isSome_map]
 unfold putK storedH
 rw[e]
 by_cases q:(atKey xs k).isSome=true
 ·rw[if_pos q,if_pos q];exact r.Dd k ry
 ·rw[if_neg q,if_neg q];exact Paired.snoc r ⟨rfl,hb,ry⟩
theorem KT.keeps {H H':Hp}{kvs:List (List Key×V)}{xs:List (List Key×Addr×Value)}(r:KT H kvs xs)(ht:∀b ys,H b=some (.tup ys)->H' b=some (.tup ys)):KT H' kvs xs:=
 Paired.DR r fun _ _ z=>⟨z.1,ht _ _ z.2.1,z.2.2⟩
section
variable {P:Program}{w:World}{H:Hp}{h:Heap}{a:Addr}
theorem Bj {u:HO}(ok:fK P w H h)(e:Rd H a u):bF P w H h a u:=e.ok ok
theorem jA {kvs:List (Key×V)}(ok:fK P w H h)(e:Rd H a (.dK kvs)):kvs.length<=sizeLine/\(a==sysModules)=false/\∃vs,KV kvs vs/\h.DictOf (aR P w) a vs:=
 show bF P w H h a (.dK kvs) from Bj ok e
theorem v5 {kvs:List (Key×V)}(ok:fK P w H h)(e:H a=some (.dK kvs)):kvs.length<=sizeLine/\(a==sysModules)=false/\∃vs,KV kvs vs/\h.DictOf (aR P w) a vs:=jA ok (.inl e)
theorem i9 {ks:List Key}(ok:fK P w H h)(e:H a=some (.tup (ks.map kV))):(tupleKind (aR P w)).is h ks a:=by
 obtain⟨_,ay,r,o,h1,h2,n,h3⟩:=(show bF P w H h a (.tup (ks.map kV)) from ok a _ e)
 exact⟨o,ay.toArray,n,h1,h2,h3,by simpa using mW r⟩
theorem kj {kvs:List (List Key×V)}(ok:fK P w H h)(e:Rd H a (.dT kvs)):kvs.length<=sizeLine/\(a==sysModules)=false /\
  ∃xs,KT H kvs xs/\h.DictOfH (tupleKind (aR P w)) a xs:=by
 obtain⟨z,y,xs,r,o,es,ep,h1,h2,h3,h4,h5⟩:=(show bF P w H h a (.dT kvs) from Bj ok e)
 refine⟨z,y,xs,r,o,es,ep,h1,h2,h3,h4,fun x hx =>?_,h5⟩
 have all:∀{l:List (List Key×V)} {m:List (List Key×Addr×Value)},KT H l m->∀x∈m,(tupleKind (aR P w)).is h x.1 x.2.1:=by
  intro l m q
  induction q with
  | nil=>intro x hx;exact nomatch hx
  | @cons p q ps qs hq t ih=>
   intro x hx
   rcases Uh.mp hx with e|hx
   ·subst e
    exact i9 ok (by rw[<-hq.1];exact hq.2.1)
   ·exact ih x hx
 exact all r x hx
theorem FW {kvs:List (List Key×V)}(ok:fK P w H h)(e:H a=some (.dT kvs)):kvs.length<=sizeLine/\(a==sysModules)=false /\
  ∃xs,KT H kvs xs/\h.DictOfH (tupleKind (aR P w)) a xs:=kj ok (.inl e)
end
def dz (H:Hp)(a:Addr)(y:V)(r:Option V):Prop:=
 (cq fun kvs k=>Rd H a (.dK kvs)/\y=kV k/\r=aW kvs k)∨gO fun kvs k b=>Rd H a (.dT kvs)/\y = .ref b/\H b=some (.tup (k.map kV))/\r=aW kvs k
def pI (H:Hp)(a:Addr)(y v:V)(H':Hp):Prop:=
 (cq fun kvs k=>H a=some (.dK kvs)/\y=kV k/\kvs.length<sizeLine/\H'=upd H a (.dK (putK kvs k v))) ∨
 gO fun kvs k b=>H a=some (.dT kvs)/\y = .ref b/\H b=some (.tup (k.map kV))/\kvs.length<sizeLine/\H'=upd H a (.dT (putK kvs k v))
theorem dz.k {H:Hp}{a:Addr}{kvs:List (Key×V)}{k:Key}(e:H a=some (.dK kvs)):dz H a (kV k) (aW kvs k) := .inl ⟨kvs,k,.inl e,rfl,rfl⟩
theorem pI.k {H:Hp}{a:Addr}{kvs:List (Key×V)}{k:Key}{v:V}(e:H a=some (.dK kvs))(hl:kvs.length<sizeLine):pI H a (kV k) v (upd H a (.dK (putK kvs k v))) := .inl ⟨kvs,k,e,rfl,hl,rfl⟩
section
variable {X:Cx}{pins:List (Addr×Obj)}{σ:St}{H:Hp}{s:Shared}{a:Addr}{y v:V}{u r:Value}{o:Option V}{A:Around}{E:Value->Shared->Prop}
theorem Inv.big (I:Inv X pins σ H s):sysModules<s.heap.objs.size:=by
 have h:mainGlobals<s.heap.objs.size:=(I.mod.glob.keeps I.bk).lt
 exact Nat.lt_trans (by decide) h
theorem uu {Q:Value->Shared->Prop}(hu:A.units+1<cLine)(I:Inv X pins σ H s)(g:dz H a y (some v))(ry:RelV y u)(h:∀w' s',Inv X pins σ H s'->RelV v w'->Q w' s'):
  wpAny (model X.prog X.w) A (getItem (.ref a) u) Q E s:=by
 rcases g with ⟨kvs,k,e,ey,l⟩|⟨kvs,k,b,e,ey,eb,l⟩
 ·subst ey
  obtain⟨z,hd,vs,rel,dd⟩:=jA I.bb e
  obtain⟨w',hw,rw'⟩:=jj.some_of (v:=v) (o:=valueAt vs k) (by rw[l];exact rel.val k)
  exact wpAny_getItem_of (iV ry) dd.mapOf hw (h w' _ (I.tok _) rw')
 ·subst ey
  cases (show u=Value.ref b from ry)
  obtain⟨z,hd,xs,rel,dd⟩:=kj I.bb e
  obtain⟨w',hw,rw'⟩:=jj.some_of (v:=v) (o:=(atKey xs k).map (·.2)) (by rw[l];exact rel.val k)
  obtain⟨p,hp,qB⟩:=Option.map_eq_some_iff.mp hw
  refine wpAny_getItem_heap (tupleKind_room_in1 hu) (i9 I.bb eb) dd hp ?_
  rw[qB]
  exact h w' _ (I.tok _) rw'
theorem MU {Q:Value->Shared->Prop}(hu:A.units+1<cLine)(I:Inv X pins σ H s)(g:dz H a y o)(ry:RelV y u)(h:∀s',Inv X pins σ H s'->Q (.bool o.isSome) s'):
  wpAny (model X.prog X.w) A (compareOp .In u (.ref a)) Q E s:=by
 rcases g with ⟨kvs,k,e,ey,l⟩|⟨kvs,k,b,e,ey,eb,l⟩
 ·subst ey
  obtain⟨z,hd,vs,rel,dd⟩:=jA I.bb e
  refine wpAny_in_of (iV ry) hd dd.mapOf ?_
  rw[<-(rel.val k).fg,<-l]
  exact h _ (I.tok _)
 ·subst ey
  cases (show u=Value.ref b from ry)
  obtain⟨z,hd,xs,rel,dd⟩:=kj I.bb e
  refine wpAny_in_heap (tupleKind_room_in1 hu) (i9 I.bb eb) hd dd ?_
  have q:=(rel.val k).fg
  rw[Option.isSome_map] at q
  rw[<-q,<-l]
  exact h _ (I.tok _)
theorem AX {Q:Value->Shared->Prop}(hu:A.units+1<cLine)(I:Inv X pins σ H s)(g:dz H a y o)(ry:RelV y u)(h:∀s',Inv X pins σ H s'->Q (.bool (!o.isSome)) s'):
  wpAny (model X.prog X.w) A (compareOp .NotIn u (.ref a)) Q E s:=by
 rcases g with ⟨kvs,k,e,ey,l⟩|⟨kvs,k,b,e,ey,eb,l⟩
 ·subst ey
  obtain⟨z,hd,vs,rel,dd⟩:=jA I.bb e
  refine wpAny_notIn_of (iV ry) hd dd.mapOf ?_
  rw[<-(rel.val k).fg,<-l]
  exact h _ (I.tok _)
 ·subst ey
  cases (show u=Value.ref b from ry)
  obtain⟨z,hd,xs,rel,dd⟩:=kj I.bb e
  refine wpAny_notIn_heap (tupleKind_room_in1 hu) (i9 I.bb eb) hd dd ?_
  have q:=(rel.val k).fg
  rw[Option.isSome_map] at q
  rw[<-q,<-l]
  exact h _ (I.tok _)
theorem iC {h':Heap}{t':Nat}{ob:HO}(I:Inv X pins σ H s)(mu:Ey (H a))(hs:Y0 a s.heap h')(he:∃q,h'.get? a=some q)(new:bF X.prog X.w (upd H a ob) h' a ob):
  Inv X pins σ (upd H a ob) { s with heap:=h',toks:=t' }:=
 I.write (x:=a) (e:=a) mu (.inl rfl) (fun b q hb z=>(hs.2 b hb).trans z) he new
theorem ox {P:Program}{w:World}{H':Hp}{h':Heap}{kvs:List (Key×V)}{vs:List (Key×Value)}(z:kvs.length<=sizeLine)(hd:(a==sysModules)=false)(rel:KV kvs vs)(dd:h'.DictOf (aR P w) a vs):
  bF P w H' h' a (.dK kvs):=⟨z,hd,vs,rel,dd⟩
theorem vB {H':Hp}{Q:Unit->Shared->Prop}(hu:A.units+1<cLine)(I:Inv X pins σ H s)(g:pI H a y v H')(ry:RelV y u)(rv:RelV v r)(h:∀s',Inv X pins σ H' s'->Q () s'):
  wpAny (model X.prog X.w) A (setItem (.ref a) u r) Q E s:=by
 rcases g with ⟨kvs,k,e,ey,l,eH⟩|⟨kvs,k,b,e,ey,eb,l,eH⟩
 ·subst ey eH
  obtain⟨z,hd,vs,rel,dd⟩:=v5 I.bb e
  have hz:vs.length<=sizeLine:=by rw[<-rel.length];exact z
  have hl:(putK kvs k v).length<=sizeLine:=by have:=dF kvs k v;omega
  refine wpAny_setItem_pairs (hsz:=hz) (iV ry) dd fun h' dd' hs=>h _ ?_
  have he:∃q,h'.get? a=some q:=let ⟨q,_,_,hq,_⟩:=dd'; ⟨q,hq⟩
  exact iC I (by rw[e];exact True.intro) hs he (ox hl hd (rel.put k rv) dd')
 ·subst ey eH
  cases (show u=Value.ref b from ry)
  obtain⟨z,hd,xs,rel,dd⟩:=FW I.bb e
  have hz:xs.length<=sizeLine:=by rw[<-Paired.length rel];exact z
  have hl:(putK kvs k v).length<=sizeLine:=by have:=dF kvs k v;omega
  refine wpAny_setItem_heap (hsz:=hz) (tupleKind_room_in1 hu) (i9 I.bb eb) dd fun h' dd' hs=>h _ ?_
  obtain⟨q,es,ep,hq,h2,h3,h4,_,h5⟩:=dd'
  refine iC I (by rw[e];exact True.intro) hs ⟨q,hq⟩ ⟨hl,hd,_,(rel.put k eb rv).keeps fun c ys ec =>?_,q,es,ep,hq,h2,h3,h4,h5⟩
  rw[ak (BE ec e (fun z=>nomatch z))]
  exact ec
end
section
variable {X:Cx}{pins:List (Addr×Obj)}{σ:St}{H:Hp}{s:Shared}{a:Addr}{kvs:List (Key×V)}{k:Key}{u:Value}{A:Around}{E:Value->Shared->Prop}
theorem Gv {Q:Value->Shared->Prop}(I:Inv X pins σ H s)(e:Rd H a (.dK kvs))(h:∀t s',Inv X pins σ H s'->Q (.int kvs.length t) s'):wpAny (model X.prog X.w) A (call (.builtin "len") [.ref a]) Q E s:=by
 obtain⟨z,hd,vs,rel,dd⟩:=jA I.bb e
 refine call_len_dict hd dd (by rw[<-rel.length];rw[sizeLine_eq] at z;omega) ?_
 rw[<-rel.length]
 exact h _ _ (I.tok _)
end
def FU (i:Expr):Prop:=∀ov iv,subscripted i false ov iv=operate [ov,iv] (getItem ov iv)
theorem Ak {prog:Program}{w:World}{A:Around}{E:Value->Shared->Prop}{s:Shared}{env:Env}{value slice:Expr}{pos:Pos}{T id:String}{Q:Value->Shared->Prop}
  (hl:typeLookup (.type T) "__getitem__" = pure (some (.builtin id))) (hs:FU slice)
  (h:wpAny (model prog w) A (eval value env) (fun o s₁=>wpAny (model prog w) A (eval slice env) (fun i s₂=>s₂.TypeIs o T/\wpAny (model prog w) A (getItem o i) Q E s₂) E s₁) E s) :
  wpAny (model prog w) A (eval (.Subscript value slice pos) env) Q E s:=by
 refine Subscript_ (wpAny_mono h (fun o s₁ h₁=>wpAny_mono h₁ (fun i s₂ h₂ =>?_) fun _ _ x=>x) fun _ _ x=>x)
 obtain⟨hT,h₂⟩:=h₂
 unfold subscriptTail
 refine wpAny_bind ?_
 rw[getitemInPython_of_ne hT.not_modules]
 refine wpAny_bind (wpAny_specialOf hT hl ?_)
 have fin:wpAny (model prog w) A (subscripted slice false o i) (fun r s₃=>wpAny (model prog w) A (letTemporaryGo value o r >>= fun _=>pure r) Q E s₃) E s₂:=by
  rw[hs o i]
  exact wpAny_operating (wpAny_mono h₂ (fun r s₃ h₃=>wpAny_bind (wpAny_letTemporaryGo (wpAny_pure h₃))) fun _ _ x=>x)
 first
  | exact wpAny_pure (wpAny_bind fin)
  | exact wpAny_bind (wpAny_pure (wpAny_bind fin))
  | exact wpAny_bind fin
theorem qH {X:Cx}{pins:List (Addr×Obj)}{σ:St}{H:Hp}{s:Shared}{a:Addr}{y:V}{o:Option V}(I:Inv X pins σ H s)(g:dz H a y o):s.TypeIs (.ref a) "dict":=by
 rcases g with ⟨kvs,k,e,_,_⟩|⟨kvs,k,b,e,_,_,_⟩
 ·obtain⟨_,_,vs,_,dd⟩:=jA I.bb e
  exact dd.typeIs
 ·obtain⟨_,_,xs,_,dd⟩:=kj I.bb e
  exact dd.typeIs
def ET (td ty:TE):TE:=fun σ H Q=>td σ H fun x H1=>ty σ H1 fun y H2=>cq fun a v=>x = .ref a/\dz H2 a y (some v)/\Q v H2
def Lh (ty td:TE):TE:=fun σ H Q=>ty σ H fun y H1=>td σ H1 fun x H2=>cq fun a o=>x = .ref a/\dz H2 a y o/\Q (.bl o.isSome) H2
def zM (ty td:TE):TE:=fun σ H Q=>ty σ H fun y H1=>td σ H1 fun x H2=>cq fun a o=>x = .ref a/\dz H2 a y o/\Q (.bl (!o.isSome)) H2
def Fb (td ty tv:TE):TS:=fun D σ H=>tv σ H fun v H1=>td σ H1 fun x H2=>ty σ H2 fun y H3=>cq fun a H4=>x = .ref a/\pI H3 a y v H4/\D.nx σ H4
section
variable {X:Cx}{o i e value:Expr}{pos pos' Pp:Pos}{td ty tv:TE}
theorem dh (hu:X.A.units+1<cLine)(ho:PE X o td)(hi:PE X i ty)(hs:FU i):PE X (.Subscript o i pos) (ET td ty):=by
 intro pins s σ H Q I h
 refine Ak PySem.F.slot_dict_getitem.lookup hs (aZ (ho s σ H _ I h) fun u s1 hz_=>ae.el hz_ _ fun x H1 I1 rx q1=>aZ (hi s1 σ H1 _ I1 q1) fun iv s2 hz_ =>?_)
 refine ae.el hz_ _ ?_
 clear hz_
 rintro y H2 I2 ry ⟨a,v,ex,g,q2⟩
 subst ex
 obtain rfl:u=Value.ref a:=rx
 exact⟨qH I2 g,uu hu I2 g ry fun w' s3 I3 rw'=>⟨v,H2,I3,rw',q2⟩⟩
theorem j6 (hu:X.A.units+1<cLine)(hi:PE X i ty)(ho:PE X o td):PC X .In i o (Lh ty td):=by
 intro pins s σ H Q I h
 refine aZ (hi s σ H _ I h) fun iv s1 hz_=>ae.el hz_ _ fun y H1 I1 ry q1=>aZ (ho s1 σ H1 _ I1 q1) fun u s2 hz_ =>?_
 refine ae.el hz_ _ ?_
 clear hz_
 rintro x H2 I2 rx ⟨a,ov,ex,g,q2⟩
 subst ex
 obtain rfl:u=Value.ref a:=rx
 exact MU hu I2 g ry fun s3 I3=>⟨.bl ov.isSome,H2,I3,rfl,q2⟩
theorem mY (hu:X.A.units+1<cLine)(hi:PE X i ty)(ho:PE X o td):PC X .NotIn i o (zM ty td):=by
 intro pins s σ H Q I h
 refine aZ (hi s σ H _ I h) fun iv s1 hz_=>ae.el hz_ _ fun y H1 I1 ry q1=>aZ (ho s1 σ H1 _ I1 q1) fun u s2 hz_ =>?_
 refine ae.el hz_ _ ?_
 clear hz_
 rintro x H2 I2 rx ⟨a,ov,ex,g,q2⟩
 subst ex
 obtain rfl:u=Value.ref a:=rx
 exact AX hu I2 g ry fun s3 I3=>⟨.bl (!ov.isSome),H2,I3,rfl,q2⟩
theorem om (hu:X.A.units+1<cLine)(ho:PE X o td)(hi:PE X i ty)(hv:PE X value tv)(hs:swapsWith value (some (.Subscript o i pos')) pos.line X.env=pure false):
  PS X (.Assign [.Subscript o i pos'] value pos) (Fb td ty tv):=by
 intro pins s σ H D I h
 refine wpAny_Assign_Subscript (aZ (hv s σ H _ I h) fun r s1 ⟨v,H1,I1,rv,q1⟩=>aZ (ho s1 σ H1 _ I1 q1) fun u s2 ⟨x,H2,I2,rx,q2⟩=>aZ (hi s2 σ H2 _ I2 q2) fun iv s3 ⟨y,H3,I3,ry,a,H4,ex,g,q3⟩=>?_) hs
 subst ex
 obtain rfl:u=Value.ref a:=rx
 exact vB hu I3 g ry rv fun s4 I4=>⟨σ,H4,I4,q3⟩
end
theorem iJ {P:Program}{w:World}{H:Hp}(h:Heap)(hb:sysModules<h.objs.size):bF P w H (h.push { cls := .type "dict",data := .dict #[] }) h.objs.size (.dK []):=
 ⟨Um _,beq_eq_false_iff_ne.mpr (Ne.symm (Jw hb)),[],.nil,Heap.DictOf.new h⟩
def wA:TE:=fun _ H Q=>∀p,H p=none->Q (.ref p) (upd H p (.dK []))
section
variable {X:Cx}{pos:Pos}
theorem xR:PE X (.Dict [] [] pos) wA:=fun pins s σ H Q I h=>
 wpAny_Dict_empty ⟨.ref s.heap.objs.size,_,I.laid (a:=s.heap.objs.size) (o := .dK []) (t':=s.toks) (fun _ _ q=>Jc _ q) (Je _) (iJ s.heap I.big),rfl,h _ (I.bb.fresh (Je _))⟩
end
def kW:List (TE×TE)->St->Hp->(List (V×V)->Hp->Prop)->Prop
 | [],_,H,Q=>Q [] H
 | (tk,tv)::r,σ,H,Q=>tk σ H fun x H1=>tv σ H1 fun y H2=>kW r σ H2 fun ps H3=>Q ((x,y)::ps) H3
abbrev VV:List (V×V)->List (Value×Value)->Prop:=Paired fun p q=>RelV p.1 q.1/\RelV p.2 q.2
def GA (X:Cx)(pos:Pos)(keys:List (Option Expr))(values:List Expr)(pJ:List (TE×TE)):Prop:=
 ∀ ⦃pins:List (Addr×Obj)⦄ (s:Shared) (σ:St) (H:Hp) (Q:List (V×V)->Hp->Prop),Inv X pins σ H s->kW pJ σ H Q ->
  wpAny (model X.prog X.w) X.A (evalPairs (pairTrees keys values X.env pos)) (fun vs s'=>cq fun ps H'=>Inv X pins σ H' s'/\VV ps vs/\Q ps H') X.xe s
theorem AZ {X:Cx}{pos:Pos}:GA X pos [] [] []:=fun pins s σ H Q I h=>pairTrees_nil_walk ⟨[],H,I,.nil,h⟩
theorem pL {X:Cx}{pos:Pos}{k v:Expr}{ks:List (Option Expr)}{vs:List Expr}{tk tv:TE}{pJ:List (TE×TE)}(hk:PE X k tk)(hv:PE X v tv)(hr:GA X pos ks vs pJ):
  GA X pos (some k::ks) (v::vs) ((tk,tv)::pJ):=fun pins s σ H Q I h=>
 pairTrees_cons_walk (aZ (hk s σ H _ I h) fun u s1 hz_=>ae.el hz_ _ fun x H1 I1 rx q1=>aZ (hv s1 σ H1 _ I1 q1) fun w2 s2 ⟨y,H2,I2,ry,q2⟩=>
  aZ (hr s2 σ H2 _ I2 q2) fun ws s3 hz_=>ae.el hz_ _ fun ps H3 I3 rel q3=>⟨(x,y)::ps,H3,I3,.cons ⟨rx,ry⟩ rel,q3⟩)
noncomputable def bA (kvs more:List (Key×V)):List (Key×V):=more.foldl (fun acc kv=>putK acc kv.1 kv.2) kvs
theorem KV.merge:∀{more:List (Key×V)} {rs:List (Key×Value)} {kvs:List (Key×V)} {vs:List (Key×Value)},KV more rs->KV kvs vs->KV (bA kvs more) (merged vs rs):=by
 intro more rs kvs vs r
 unfold KV at r
 induction r generalizing kvs vs with
 | nil=>intro q;exact q
 | @cons p q ps qs h t ih=>
  intro r0
  have e:KV (putK kvs p.1 p.2) (stored vs q.1 q.2):=by
   have:=r0.put p.1 h.2
   rw[<-h.1];exact this
  exact ih e
theorem cD:∀(more kvs:List (Key×V)),(bA kvs more).length<=kvs.length+more.length
 | [],kvs=>by show kvs.length<=kvs.length+0;omega
 | p::r,kvs=>by
  have h1:=cD r (putK kvs p.1 p.2)
  have h2:=dF kvs p.1 p.2
  show(bA (putK kvs p.1 p.2) r).length<=_
  rw[J0];omega
theorem lH {P:Program}{w:World}:∀{kvs:List (Key×V)} {ws:List (Value×Value)},VV (kvs.map fun kv=>(kV kv.1,kv.2)) ws->∃rs,Carries (aR P w) ws rs/\KV kvs rs
 | [],_,r=>by rw[List.map_nil] at r;cases r;exact⟨[],True.intro,.nil⟩
 | p::kvs,_,r=>by
  rw[Uj] at r
  cases r with
  | @cons a b as bs h t=>
   obtain⟨rs,c,q⟩:=lH (P:=P) (w:=w) t
   obtain⟨b1,b2⟩:=b
   exact⟨(p.1,b2)::rs,⟨iV h.1,rfl,c⟩,.cons ⟨rfl,h.2⟩ q⟩
def yj (pJ:List (TE×TE)):TE:=fun σ H Q=>∀p,H p=none->kW pJ σ (upd H p (.dK [])) fun ps H2=>H2 p=some (.dK [])/\∃kvs:List (Key×V),ps=kvs.map (fun kv=>(kV kv.1,kv.2))/\kvs.length<=15/\Q (.ref p) (upd H2 p (.dK (bA [] kvs)))
theorem zu {X:Cx}{pos:Pos}{keys:List (Option Expr)}{values:List Expr}{pJ:List (TE×TE)}(h:GA X pos keys values pJ)(gQ:keys.all (·.isSome)=true)(hl:keys.length=values.length)(h0:keys≠[])
  (LL:keys.length<=15):PE X (.Dict keys values pos) (yj pJ):=by
 intro pins s σ H Q I q
 have hn:=I.bb.fresh (Je s.heap.objs.size)
 have I1:=I.laid (a:=s.heap.objs.size) (o := .dK []) (h':=s.heap.push { cls := .type "dict",data := .dict #[] }) (t':=s.toks) (fun _ _ q=>Jc _ q) (Je _) (iJ s.heap I.big)
 refine wpAny_Dict_walk (knd:=aR X.prog X.w) gQ hl h0 LL (aZ (h _ σ _ _ I1 (q _ hn)) fun ws s2 hz_=>ae.el hz_ _ fun ps H2 I2 rel e kvs ep lk q2 =>?_)
 subst ep
 obtain⟨rs,c,rk⟩:=lH (P:=X.prog) (w:=X.w) rel
 obtain⟨z,hd,vs0,r0,dd⟩:=v5 I2.bb e
 cases r0
 refine⟨rs,c,dd,fun h' dd' hs=>⟨.ref s.heap.objs.size,_,?_,rfl,q2⟩⟩
 have hz:(bA [] kvs).length<=sizeLine:=by
  have h1:=cD kvs []
  rw[Yn] at h1
  rw[sizeLine_eq];omega
 have he:∃q,h'.get? s.heap.objs.size=some q:=let ⟨q,_,_,hq,_⟩:=dd'; ⟨q,hq⟩
 exact iC I2 (by rw[e];exact True.intro) hs he (ox hz hd (rk.merge .nil) dd')
structure M2 (X:Cx)(o:Expr)(m:Str)(apos:Pos)(e f:Expr)(dJ:Pos):Prop where
 base:attributeBase o m X.env (eval o X.env)=eval o X.env
 pG:((backTo dJ (starEach [e,f] X.env)).all (fun x => !x.1)&&(backToKw dJ (keywordEach [] X.env)).all (fun x=>x.1.isSome)
  && decide (([e,f]:List Expr).length+([]:List Keyword).length+(if ([]:List Keyword).isEmpty then 0 else 1)<30))=true
 line:(apos.endLine==dJ.line)=true
 trees:backTo dJ (starEach [e,f] X.env)=[(false,eval e X.env),(false,eval f X.env)]
def MI (H:Hp)(a:Addr):Prop:=(∃kvs,Rd H a (.dK kvs))∨∃kvs,Rd H a (.dT kvs)
theorem Cj {X:Cx}{pins:List (Addr×Obj)}{σ:St}{H:Hp}{s:Shared}{a:Addr}(I:Inv X pins σ H s)(d:MI H a):
  s.TypeIs (.ref a) "dict" /\ (∀b,Value.ref a = .ref b->∃ob,s.heap.get? b=some ob/\ob.dict=none)/\(a==sysModules)=false:=by
 rcases d with ⟨kvs,e⟩|⟨kvs,e⟩
 ·obtain⟨_,hd,vs,_,dd⟩:=jA I.bb e
  refine⟨dd.typeIs,fun b q =>?_,hd⟩
  cases q
  obtain⟨ob,_,_,h1,h2,_⟩:=dd
  exact⟨ob,h1,h2.2.1⟩
 ·obtain⟨_,hd,xs,_,dd⟩:=kj I.bb e
  refine⟨dd.typeIs,fun b q =>?_,hd⟩
  cases q
  obtain⟨ob,_,_,h1,h2,_⟩:=dd
  exact⟨ob,h1,h2.2.1⟩
section
variable {X:Cx}{pins:List (Addr×Obj)}{σ:St}{H:Hp}{s:Shared}{a:Addr}{y d:V}{u r:Value}{o:Option V}{A:Around}{E:Value->Shared->Prop}
theorem Cg {Q:Value->Shared->Prop}(hu:A.units+1<cLine)(I:Inv X pins σ H s)(g:dz H a y o)(ry:RelV y u)(rd:RelV d r)(h:∀w' s',Inv X pins σ H s'->RelV (o.getD d) w'->Q w' s'):
  wpAny (model X.prog X.w) A (call (.builtin "dict.get") [.ref a,u,r]) Q E s:=by
 rcases g with ⟨kvs,k,e,ey,l⟩|⟨kvs,k,b,e,ey,eb,l⟩
 ·subst ey
  obtain⟨z,hd,vs,rel,dd⟩:=jA I.bb e
  refine call_meetsIn PySem.F.slot_dict_get dd.typeIs PySem.F.entry_dict_get (PySem.F.args_dict_get_3 _ _ _) (meets_dict_get_default (aR X.prog X.w) a (iV ry) hd r) ⟨_,dd.mapOf,h _ _ (I.tok _) ?_⟩
  rw[l]
  exact(rel.val k).getD rd
 ·subst ey
  cases (show u=Value.ref b from ry)
  obtain⟨z,hd,xs,rel,dd⟩:=kj I.bb e
  refine call_meetsIn PySem.F.slot_dict_get dd.typeIs PySem.F.entry_dict_get (PySem.F.args_dict_get_3 _ _ _) (meetsH_dict_get_default (tupleKind (aR X.prog X.w)) a b hd r) ⟨tupleKind_room_in1 hu,k,xs,i9 I.bb eb,dd,h _ _ (I.tok _) ?_⟩
  rw[l]
  exact(rel.val k).getD rd
end
def Cm (td ty tx:TE):TE:=fun σ H Q=>td σ H fun x H1=>∃a,x = .ref a/\MI H1 a/\ty σ H1 fun y H2=>tx σ H2 fun z H3=>∃o,dz H3 a y o/\Q (o.getD z) H3
section
variable {X:Cx}{o e f:Expr}{apos dJ:Pos}{td ty tx:TE}
theorem wj (hu:X.A.units+1<cLine)(ho:PE X o td)(he:PE X e ty)(hf:PE X f tx)(m:M2 X o "get" apos e f dJ):PE X (.Call (.Attribute o "get" apos) [e,f] [] dJ) (Cm td ty tx):=by
 intro pins s σ H Q I h
 refine wpAny_Call_method m.base m.pG m.line PySem.F.plainAttrs_dict PySem.F.slot_dict_get PySem.F.type_dict_get (aZ (ho s σ H _ I h) fun u s1 hz_ =>?_)
 refine ae.el hz_ _ ?_
 clear hz_
 rintro x H1 I1 rx ⟨a,ex,d,q1⟩
 subst ex
 obtain rfl:u=Value.ref a:=rx
 obtain⟨t1,t2,_⟩:=Cj I1 d
 refine⟨t1,t2,?_⟩
 rw[m.trees]
 refine Calls.callWith_builtin rfl (Calls.evalArgs_plain (Calls.spliced_cons (aZ (he s1 σ H1 _ I1 q1) fun iv s2 ⟨y,H2,I2,ry,q2⟩=>
  Calls.spliced_cons (aZ (hf s2 σ H2 _ I2 q2) fun fv s3 ⟨z,H3,I3,rz,ov,g,q3⟩=>Calls.spliced_nil ?_))))
 exact Cg hu I3 g ry rz fun w' s4 I4 rw'=>⟨_,H3,I4,rw',q3⟩
end
end L2
namespace HT
open PySem PyProof.Rows
section
variable {prog:Program}{w:World}{A:Around}{E:Value->Shared->Prop}{s:Shared}
noncomputable def qe (n d:Nat):Option Int->Nat
 | none=>d
 | some v=>if v<0 then (v+(n:Int)).toNat else min v.toNat n
theorem xj (n d:Nat):qe n d none=d:=rfl
theorem AY (n d k:Nat):qe n d (some (k:Int))=min k n:=by
 show(if (k:Int)<0 then ((k:Int)+(n:Int)).toNat else min (k:Int).toNat n)=min k n
 rw[if_neg (by omega),U8]
end
end HT
namespace L2
open PySem PySem.Spec PyProof.Rows
abbrev TO:=St->Hp->(Option Int->Hp->Prop)->Prop
def PO (X:Cx)(e:Option Expr)(t:TO):Prop:=
 ∀ ⦃pins:List (Addr×Obj)⦄ (s:Shared) (σ:St) (H:Hp) (Q:Option Int->Hp->Prop),Inv X pins σ H s->t σ H Q ->
  wpAny (model X.prog X.w) X.A (evalPart e X.env) (fun u s'=>cq fun o H'=>Inv X pins σ H' s'/\IsPart u o/\Q o H') X.xe s
noncomputable def cU:TO:=fun _ H Q=>Q none H
noncomputable def Ew (t:TE):TO:=fun σ H Q=>t σ H fun x H1=>∃i,x = .int i/\Q (some i) H1
section
variable {X:Cx}{e:Expr}{te:TE}{lo hi:Option Expr}{tl th:TO}{pos p2:Pos}
theorem bB:PO X none cU:=by
 intro pins s σ H Q I h
 rw[evalPart_none]
 exact wpAny_pure ⟨none,H,I,.none,h⟩
theorem bw (h:PE X e te):PO X (some e) (Ew te):=by
 intro pins s σ H Q I hw
 rw[evalPart_some]
 refine aZ (h s σ H _ I hw) fun u s1 hz_ =>?_
 refine ae.el hz_ _ ?_
 clear hz_
 rintro x H1 I1 r1 q1
 obtain⟨i,rfl,q⟩:=q1
 obtain⟨t,rfl⟩:=r1
 exact⟨some i,H1,I1,.int i t,q⟩
def yS (X:Cx)(r:V->Option Int->Option Int->Hp->VK->Prop):Prop:=
 ∀ ⦃pins:List (Addr×Obj)⦄ (s:Shared) (σ:St) (H:Hp) (x:V) (v vl vu:Value) (lo hi:Option Int) (sl:Addr) (Q:VK),Inv X pins σ H s->RelV x v->s.heap.IsSliceOf sl vl vu .none->IsPart vl lo->IsPart vu hi->r x lo hi H Q ->
  cq fun T id=>typeLookup (.type T) "__getitem__" = pure (some (.builtin id))/\s.TypeIs v T/\wpAny (model X.prog X.w) X.A (getItem v (.ref sl)) (EP X pins σ Q) X.xe s
theorem yS.or {r r':V->Option Int->Option Int->Hp->VK->Prop}(h:yS X r)(h':yS X r'):yS X (fun x lo hi H Q=>r x lo hi H Q∨r' x lo hi H Q):=by
 intro pins s σ H x v vl vu lo hi sl Q I rx hs pl pu q
 rcases q with q|q
 ·exact h s σ H x v vl vu lo hi sl Q I rx hs pl pu q
 ·exact h' s σ H x v vl vu lo hi sl Q I rx hs pl pu q
def OI (r:V->Option Int->Option Int->Hp->VK->Prop)(te:TE)(tl th:TO):TE:=fun σ H Q=>te σ H fun x H1=>tl σ H1 fun l H2=>th σ H2 fun u H3=>r x l u H3 Q
theorem bg {r:V->Option Int->Option Int->Hp->VK->Prop}(hr:yS X r)(he:PE X e te)(hl:PO X lo tl)(hu:PO X hi th):PE X (.Subscript e (.Slice lo hi none p2) pos) (OI r te tl th):=by
 intro pins s σ H Q I h
 refine Subscript_ (aZ (he s σ H _ I h) fun v s1 hz_ =>?_)
 refine ae.el hz_ _ ?_
 clear hz_
 rintro x H1 I1 r1 q1
 refine wpAny_Slice (aZ (hl s1 σ H1 _ I1 q1) fun vl s2 hz_=>ae.el hz_ _ fun l H2 I2 pl q2=>aZ (hu s2 σ H2 _ I2 q2) fun vu s3 hz_ =>?_)
 refine ae.el hz_ _ ?_
 clear hz_
 rintro u H3 I3 pu q3
 rw[evalPart_none]
 refine wpAny_pure ?_
 have I4:Inv X pins σ H3 { s3 with heap:=s3.heap.push { cls := .type "slice",data := .fields #[vl,vu,.none] } }:=I3.kept (t':=s3.toks) fun b ob q=>Jc _ q
 obtain⟨T,id,hT,ht,hg⟩:=hr { s3 with heap:=s3.heap.push { cls := .type "slice",data := .fields #[vl,vu,.none] } } σ H3 x v vl vu l u s3.heap.objs.size Q I4 r1 (Heap.IsSliceOf.new ..) pl pu q3
 show wpAny (model X.prog X.w) X.A (subscriptTail e (.Slice lo hi none p2) v (.ref s3.heap.objs.size)) (EP X pins σ Q) X.xe { s3 with heap:=s3.heap.push { cls := .type "slice",data := .fields #[vl,vu,.none] } }
 exact tail_any (ops:=[.ref s3.heap.objs.size,v]) ht hT hg (by with_unfolding_all rfl)
noncomputable def oP (xs:List V)(lo hi:Option Int):List V:=(xs.drop (HT.qe xs.length 0 lo)).take (HT.qe xs.length xs.length hi-HT.qe xs.length 0 lo)
theorem qv (xs:List V)(lo hi:Option Int):(oP xs lo hi).length<=xs.length:=by
 unfold oP
 rw[J1,Ui]
 omega
end
noncomputable def xT (n:Nat)(i:Int):Option Nat:=if 0<=i then (if i<n then some i.toNat else none) else if -(n:Int)<=i then some (i+n).toNat else none
noncomputable def rg {α:Type}(xs:List α)(i:Int):Option α:=(xT xs.length i).bind fun j=>xs[j]?
theorem nX {n:Nat}{i:Int}{j:Nat}(h:xT n i=some j):seqIndex? i n=some j/\j<n /\ -(n:Int)<=i/\i<n:=by
 unfold xT at h
 by_cases h0:0<=i
 ·rw[if_pos h0] at h
  by_cases h1:i<n
  ·rw[if_pos h1] at h
   have e:i.toNat=j:=Option.some.inj h
   exact⟨by rw[seqIndex_of h0 h1,e],by omega,by omega,h1⟩
  ·rw[if_neg h1] at h;cases h
 ·rw[if_neg h0] at h
  by_cases h1: -(n:Int)<=i
  ·rw[if_pos h1] at h
   have e:(i+n).toNat=j:=Option.some.inj h
   exact⟨by rw[seqIndex_neg (by omega) h1,e],by omega,h1,by omega⟩
  ·rw[if_neg h1] at h;cases h
theorem jN {α:Type}{xs:List α}{i:Int}{v: α}(h:rg xs i=some v):∃j,seqIndex? i xs.length=some j/\xs[j]? = some v/\j<xs.length /\ -(xs.length:Int)<=i/\i<xs.length:=by
 unfold rg at h
 cases e:xT xs.length i with
 | none=>rw[e] at h;cases h
 | some j=>
  rw[e] at h
  obtain⟨h1,h2,h3,h4⟩:=nX e
  exact⟨j,h1,h,h2,h3,h4⟩
theorem m9 {α:Type}{xs:List α}{j:Nat}{v: α}(h:xs[j]? = some v):rg xs (j:Int)=some v:=by
 have hj:j<xs.length:=(Jx.mp h).1
 have e:xT xs.length (j:Int)=some j:=by
  unfold xT
  rw[if_pos (by omega),if_pos (by omega)];simp
 unfold rg;rw[e];exact h
def AQ (b:Expr):Prop:=∀o i,subscripted b false o i=operate [o,i] (getItem o i)
def yQ (X:Cx)(r:R2):Prop:=
 ∀ ⦃value slice:Expr⦄ ⦃pins:List (Addr×Obj)⦄ (s:Shared) (σ:St) (H:Hp) (x y:V) (v u:Value) (Q:VK),Inv X pins σ H s->RelV x v->RelV y u->r x y H Q ->
  subscripted slice false v u=operate [v,u] (getItem v u)->wpAny (model X.prog X.w) X.A (subscriptTail value slice v u) (EP X pins σ Q) X.xe s
def Bk (X:Cx)(id:String)(r:V->List V->Hp->VK->Prop):Prop:=
 ∀ ⦃pins:List (Addr×Obj)⦄ (s:Shared) (σ:St) (H:Hp) (x:V) (xs:List V) (v:Value) (us:List Value) (Q:VK),Inv X pins σ H s->RelV x v->Vals xs us->r x xs H Q ->
  wpAny (model X.prog X.w) X.A (call (.builtin id) (v::us)) (EP X pins σ Q) X.xe s
section
variable {X:Cx}{a b:Expr}{ta tb:TE}{pos:Pos}
theorem yQ.or {r r':R2}(h:yQ X r)(h':yQ X r'):yQ X (fun x y H Q=>r x y H Q∨r' x y H Q):=by
 intro value slice pins s σ H x y v u Q I rx ry q hs
 rcases q with q|q
 ·exact h s σ H x y v u Q I rx ry q hs
 ·exact h' s σ H x y v u Q I rx ry q hs
theorem cX {r:R2}(hr:yQ X r)(ha:PE X a ta)(hb:PE X b tb)(hs:AQ b):PE X (.Subscript a b pos) (GS r ta tb):=by
 intro pins s σ H Q I h
 exact Subscript_ (Dh ha hb I h fun v u s2 x y H2 I2 rx ry q=>hr s2 σ H2 x y v u Q I2 rx ry q (hs _ _))
def Fm (K:Jb):R2:=fun x y H Q=>pW fun p xs i v=>x = .ref p/\y = .int i/\aK K H p xs/\rg xs i=some v/\Q v H
def G4 (K:Jb):R2:=fun x y H Q=>pW fun p xs i v=>x = .ref p/\y = .int i/\fP K H p xs/\rg xs i=some v/\Q v H
def Eu:R2:=fun x y H Q=>gO fun z i c=>x = .str z/\y = .int i/\z.length<=sizeLine/\rg z.cps.toList i=some c/\Q (.str ⟨#[c]⟩) H
theorem A4:yQ X (Fm X.K):=by
 intro value slice pins s σ H x y v u Q I rx ry h hs
 obtain⟨p,xs,i,z,rfl,rfl,hq,he,q⟩:=h
 cases rx
 obtain⟨t,rfl⟩:=ry
 obtain⟨ay,r,pl,hz⟩:=I.list hq
 obtain⟨j,h1,h2,h3,h4,h5⟩:=jN he
 obtain⟨w,ew,rw'⟩:=r.get h2
 have hl:=r.length
 have hn:=i8
 have fin:EP X pins σ Q w s:=⟨z,H,I,rw',q⟩
 by_cases h0:0<=i
 ·have hj:i.toNat=j:=by
   rw[seqIndex_of h0 h5] at h1
   exact Option.some.inj h1
  exact item_listR pl.isList h0 (by omega) (by rw[hj];simpa using ew) fin hs
 ·have hj:(i+(ay.toArray.size:Int)).toNat=j:=by
   rw[seqIndex_neg (by omega) h4] at h1
   rw[Jm,<-hl]
   exact Option.some.inj h1
  exact subscriptTail_builtinR (x:=w) pl.isList.typeIs slot_list_getitem.lookup
   (wpAny_getItem_list_neg (Q:=fun r s'=>r=w/\EP X pins σ Q r s') pl.isList (by omega) (by rw[Jm]<;>omega) (by omega) (by rw[hj];simpa using ew) ⟨rfl,fin⟩) hs
theorem BU:yQ X (G4 X.K):=by
 intro value slice pins s σ H x y v u Q I rx ry h hs
 obtain⟨p,xs,i,z,rfl,rfl,hq,he,q⟩:=h
 cases rx
 obtain⟨t,rfl⟩:=ry
 obtain⟨ay,r,pl,hz⟩:=I.tuple hq
 obtain⟨j,h1,h2,h3,h4,h5⟩:=jN he
 obtain⟨w,ew,rw'⟩:=r.get h2
 have hl:=r.length
 have hn:=i8
 have fin:EP X pins σ Q w s:=⟨z,H,I,rw',q⟩
 exact subscriptTail_builtinR (x:=w) pl.typeIs slot_tuple_getitem.lookup
  (getItem_tuple (j:=j) (Q:=fun r s'=>r=w/\EP X pins σ Q r s') pl (by omega) (by omega) (by rw[Jm,<-hl];exact h1) (by simpa using ew) ⟨rfl,fin⟩) hs
theorem Df:yQ X Eu:=by
 intro value slice pins s σ H x y v u Q I rx ry h hs
 obtain⟨z,i,c,rfl,rfl,hz,he,q⟩:=h
 obtain⟨t,rfl⟩:=rx
 obtain⟨t',rfl⟩:=ry
 obtain⟨j,h1,h2,h3,h4,h5⟩:=jN he
 have hl:z.cps.toList.length=z.length:=by simp[Str.length]
 rw[hl] at h1 h4 h5
 have hn:=i8
 exact tail_any (typeIs_str s z t) slot_str_getitem.lookup (getItem_str (c:=c) (by
  have e1:decide (i < -(2^63:Int))=false:=decide_eq_false (by omega)
  have e2:decide (i>=2^63)=false:=decide_eq_false (by omega)
  rw[e1,e2,Bool.or_false]) (by rw[h1];simpa using h2) ⟨.str ⟨#[c]⟩,H,I.tok _,⟨_,rfl⟩,q⟩) hs
def GP (K:Jb):R2:=fun x y H Q=>Fm K x y H Q∨G4 K x y H Q∨Eu x y H Q
theorem C9:yQ X (GP X.K):=A4.or (BU.or Df)
theorem sH (ay:List Value)(n j:Nat)(u:Value):Obj.mapSeq (·.setIfInBounds j u) { cls := .type "list",data := .seq ay.toArray n } = { cls := .type "list",data := .seq (ay.set j u).toArray n }:=by
 simp[Obj.mapSeq]
theorem Inv.lst {pins:List (Addr×Obj)}{σ:St}{H:Hp}{s:Shared}{p:Addr}{xs:List V}(I:Inv X pins σ H s)(h:H p=some (.lst xs)):
  ∃(ay:List Value) (n:Nat),Vals xs ay/\s.heap.get? p=some { cls := .type "list",data := .seq ay.toArray n } /\ xs.length<=sizeLine:=by
 obtain⟨z,ay,n,r,e⟩:=I.bb p _ h
 exact⟨ay,n,r,e,z⟩
theorem Inv.Ck {pins:List (Addr×Obj)}{σ:St}{H:Hp}{s:Shared}{p:Addr}{xs ys:List V}{ay its':List Value}{n n':Nat}{f:Obj->Obj}(I:Inv X pins σ H s)(h:H p=some (.lst xs))
  (ho:s.heap.get? p=some { cls := .type "list",data := .seq ay.toArray n }) (hf:f { cls := .type "list",data := .seq ay.toArray n } = { cls := .type "list",data := .seq its'.toArray n' }) (r:Vals ys its') (hz:ys.length<=sizeLine) (t:Nat) :
  Inv X pins σ (upd H p (.lst ys)) { s with heap:=s.heap.update p f,toks:=t }:=by
 have e:(s.heap.update p f).get? p=some { cls := .type "list",data := .seq its'.toArray n' }:=by
  rw[Ux f ho (by rw[hf]<;>rfl),hf]
 refine I.write (x:=p) (e:=p) (by rw[h];trivial) (.inl rfl) (fun b u hb q=>(Uk _ _ (Ne.symm hb)).trans q) ⟨_,e⟩ ?_
 exact⟨hz,its',n',r,e⟩
def ES:V->V->V->Hp->(Hp->Prop)->Prop:=fun o i v H Q=>pW fun p xs k j=>o = .ref p/\i = .int k/\H p=some (.lst xs)/\xT xs.length k=some j/\Q (upd H p (.lst (xs.set j v)))
theorem set_list:Et X ES:=by
 intro pins s σ H o i v ov iv u Q I ro ri rv h
 obtain⟨p,xs,k,j,rfl,rfl,hp,hj,q⟩:=h
 cases ro
 obtain⟨t,rfl⟩:=ri
 obtain⟨ay,n,r,ho,hz⟩:=I.lst hp
 obtain⟨h1,h2,h3,h4⟩:=nX hj
 have hl:=r.length
 have hn:=i8
 have I':Inv X pins σ (upd H p (.lst (xs.set j v))) { s with heap:=s.heap.update p (Obj.mapSeq (·.setIfInBounds j u)) }:=
  I.Ck hp ho (sH ay n j u) (r.set rv j) (by rw[List.length_set];exact hz) s.toks
 by_cases h0:0<=k
 ·have hk:k.toNat=j:=by
   rw[seqIndex_of h0 h4] at h1
   exact Option.some.inj h1
  exact PySem.W.ki_setAt ho h0 (by omega) (by rw[Jm,<-hl];exact h4) (by rw[hk];exact⟨_,I',q⟩)
 ·have hk:(k+(ay.toArray.size:Int)).toNat=j:=by
   rw[seqIndex_neg (by omega) h3] at h1
   rw[Jm,<-hl]
   exact Option.some.inj h1
  exact PySem.W.ki_setBack ho (by omega) (by rw[Jm,<-hl];exact h3) (by omega) (by rw[hk];exact⟨_,I',q⟩)
theorem nr (lo hi:Option Int)(n:Nat):(sliceBounds lo hi none n).1=((HT.qe n 0 lo:Nat):Int)/\(sliceBounds lo hi none n).2.1=((HT.qe n n hi:Nat):Int)/\(sliceBounds lo hi none n).2.2=1:=by
 refine⟨?_,?_,rfl⟩
 ·cases lo with
  | none=>simp[sliceBounds,HT.qe]
  | some i=>
   simp only[sliceBounds,HT.qe,Option.getD_none,show(1:Int)>0 by decide,if_true]
   by_cases h:i<0
   ·simp only[h,if_true]<;>omega
   ·simp only[h,if_false]<;>omega
 ·cases hi with
  | none=>simp[sliceBounds,HT.qe]
  | some i=>
   simp only[sliceBounds,HT.qe,Option.getD_none,show(1:Int)>0 by decide,if_true]
   by_cases h:i<0
   ·simp only[h,if_true]<;>omega
   ·simp only[h,if_false]<;>omega
theorem lT (ay:List Value)(lo hi:Option Int):slicePick ay.toArray lo hi none=((ay.drop (HT.qe ay.length 0 lo)).take (HT.qe ay.length ay.length hi-HT.qe ay.length 0 lo)).toArray:=by
 obtain⟨h1,h2,h3⟩:=nr lo hi ay.toArray.size
 unfold slicePick
 rw[h1,h2,h3]
 simp only[sliceRange_one,pick_run,Jm]<;>rfl
def Co (K:Jb):V->Option Int->Option Int->Hp->VK->Prop:=fun x lo hi H Q=>cq fun a xs=>x = .ref a/\aK K H a xs/\∀p,H p=none->Q (.ref p) (upd H p (.lst (oP xs lo hi)))
theorem Ae:yS X (Co X.K):=by
 intro pins s σ H x v vl vu lo hi sl Q I rx hs pl pu h
 obtain⟨a,xs,rfl,hx,q⟩:=h
 cases rx
 obtain⟨ay,r,ht,hz⟩:=I.list hx
 have hlen:=r.length
 refine⟨"list",_,slot_list_getitem.lookup,ht.isList.typeIs,?_⟩
 refine wpAny_getItem_list_slice ht.isList hs pl pu .none (by simp) ?_ (by rw[Jm]<;>omega)
 rw[lT,<-hlen]
 refine⟨.ref s.heap.objs.size,_,I.laid (t':=s.toks) (o := .lst (oP xs lo hi)) (fun b ob q=>Jc _ q) (Je _) ?_,rfl,q _ (I.bb.fresh (Je _))⟩
 exact⟨Jr (qv xs lo hi) hz,_,0,(r.drop (HT.qe xs.length 0 lo)).take (HT.qe xs.length xs.length hi-HT.qe xs.length 0 lo),Js _ rfl⟩
theorem cj.or {f:Value}{r r':List V->Hp->VK->Prop}(h:cj X f r)(h':cj X f r'):cj X f (fun xs H Q=>r xs H Q∨r' xs H Q):=by
 intro pins s σ H xs us Q I rs q
 rcases q with q|q
 ·exact h s σ H xs us Q I rs q
 ·exact h' s σ H xs us Q I rs q
theorem nY:cj X (.type "list") (fun xs H Q=>∃p ys,xs=[.ref p]/\(aK X.K H p ys∨fP X.K H p ys)/\∀l,H l=none->Q (.ref l) (upd H l (.lst ys))):=by
 intro pins s σ H xs us Q I r h
 obtain⟨p,ys,rfl,hq,q⟩:=h
 obtain⟨u,rfl,rx⟩:=vals1 r
 cases rx
 have fin:∀(ay:List Value),Vals ys ay->ys.length<=sizeLine->∀(h':Heap) (c':Nat),(∀b o',s.heap.get? b=some o'->h'.get? b=some o') ->
   h'.get? s.heap.objs.size=some { cls := .type "list",dict:=none,data := .seq ay.toArray c',slots := #[] } -> EP X pins σ Q (.ref s.heap.objs.size) { s with heap:=h' }:=fun ay r' hz h' c' kp e=>
  ⟨.ref s.heap.objs.size,_,I.laid (t':=s.toks) kp (Je _) (show bF X.prog X.w _ h' _ (.lst ys) from⟨hz,ay,c',r',e⟩),rfl,q _ (I.bb.fresh (Je _))⟩
 rcases hq with hq|hq
 ·obtain⟨ay,r',pl,hz⟩:=I.list hq
  have hlen:=r'.length
  obtain⟨o,ho,hc,n,hd⟩:=pl.isList
  exact call_list_seq p (.inl rfl) ho hc hd (fun h' c' kp e=>fin ay r' hz h' c' kp e) (by simp only[Jm]<;>omega)
 ·obtain⟨ay,r',pl,hz⟩:=I.tuple hq
  have hlen:=r'.length
  obtain⟨o,ho,hc,n,hd⟩:=pl
  exact call_list_seq p (.inr rfl) ho hc hd (fun h' c' kp e=>fin ay r' hz h' c' kp e) (by simp only[Jm]<;>omega)
theorem lX:cj X (.type "tuple") (fun xs H Q=>∃p ys,xs=[.ref p]/\((aK X.K H p ys/\∀l,H l=none->Q (.ref l) (upd H l (.tup ys)))∨(fP X.K H p ys/\Q (.ref p) H))):=by
 intro pins s σ H xs us Q I r h
 obtain⟨p,ys,rfl,h⟩:=h
 obtain⟨u,rfl,rx⟩:=vals1 r
 cases rx
 rcases h with ⟨hq,q⟩|⟨hq,q⟩
 ·obtain⟨ay,r',pl,hz⟩:=I.list hq
  have hlen:=r'.length
  refine call_tuple_list pl.isList (fun h' kp =>?_) (by simp only[Jm]<;>omega)
  have I1:Inv X pins σ H { s with heap:=h' }:=I.kept (t':=s.toks) kp
  have I2:Inv X pins σ (upd H h'.objs.size (.tup ys)) { s with heap:=h'.push { cls := .type "tuple",data := .seq ay.toArray } }:=
   I1.laid (t':=s.toks) (fun b o e=>Jc _ e) (Je _) (show bF X.prog X.w _ _ _ (.tup ys) from⟨hz,ay,r',IsTup.new _ _⟩)
  exact⟨.ref h'.objs.size,_,I2,rfl,q _ (I1.bb.fresh (Je _))⟩
 ·obtain⟨ay,r',pl,hz⟩:=I.tuple hq
  exact call_tuple_same pl ⟨.ref p,H,I,rfl,q⟩
def KC (K:Jb)(T:String)(x:V)(H:Hp):Prop:=match x with
 | .str _=>T = "str"
 | .int _=>T = "int"
 | .ref p=>(T = "list" /\ ∃xs,aK K H p xs)∨(T = "tuple" /\ ∃o,K.lookup p=some o/\o.cls = .type "tuple" /\ o.dict=none) ∨
   (T = "dict" /\ ((∃kvs,H p=some (.dK kvs))∨∃kvs,H p=some (.dT kvs)))∨(T = "set" /\ cq fun S n=>H p=some (.set S n))
 | _=>False
theorem xq {pins:List (Addr×Obj)}{σ:St}{H:Hp}{s:Shared}{T:String}{x:V}{v:Value}(I:Inv X pins σ H s)(r:RelV x v)(ty:KC X.K T x H):
  s.TypeIs v T/\∀a,v = .ref a->∃ob,s.heap.get? a=some ob/\ob.dict=none:=by
 cases x with
 | str z=>
  obtain⟨t,rfl⟩:=r
  cases (show T = "str" from ty)
  exact⟨typeIs_str s z t,fun _ e=>nomatch e⟩
 | int i=>
  obtain⟨t,rfl⟩:=r
  cases (show T = "int" from ty)
  exact⟨typeIs_int s i t,fun _ e=>nomatch e⟩
 | ref p=>
  cases r
  rcases ty with ⟨rfl,xs,hq⟩|⟨rfl,o,hk,hc,hd⟩|⟨rfl,hk⟩|⟨rfl,S,n,hk⟩
  ·obtain⟨ay,_,pl,_⟩:=I.list hq
   refine⟨pl.isList.typeIs,fun a e =>?_⟩
   cases e
   obtain⟨o,n,e,c,hd,_⟩:=pl
   exact⟨o,e,hd⟩
  ·refine⟨⟨o,I.oW p o hk,hc⟩,fun a e =>?_⟩
   cases e
   exact⟨o,I.oW _ o hk,hd⟩
  ·have z:∃o,s.heap.get? p=some o/\o.ExactDict:=by
    rcases hk with ⟨kvs,hk⟩|⟨kvs,hk⟩
    ·obtain⟨_,_,_,_,o,_,_,e,ex,_⟩:=I.bb p _ hk
     exact⟨o,e,ex⟩
    ·obtain⟨_,_,_,_,o,_,_,e,ex,_⟩:=I.bb p _ hk
     exact⟨o,e,ex⟩
   obtain⟨o,e,ex⟩:=z
   refine⟨⟨o,e,ex.1⟩,fun a e2 =>?_⟩
   cases e2
   exact⟨o,e,ex.2.1⟩
  ·obtain⟨o,_,_,_,e,ex,_⟩:=I.bb p _ hk
   refine⟨⟨o,e,ex.1⟩,fun a e2 =>?_⟩
   cases e2
   exact⟨o,e,ex.2.1⟩
 | _=>exact False.elim ty
def Hv (K:Jb)(T:String)(r:V->List V->Hp->VK->Prop)(to:TE):TE:=fun σ H Q=>to σ H fun x H1=>KC K T x H1/\r x [] H1 Q
def KP (K:Jb)(T:String)(r:V->List V->Hp->VK->Prop)(to:TE)(t:TA):TE:=fun σ H Q=>to σ H fun x H1=>KC K T x H1/\t σ H1 fun xs H2=>r x xs H2 Q
variable {o e:Expr}{es:List Expr}{to:TE}{t:TA}{name:Str}{apos dJ:Pos}{T id:String}{r:V->List V->Hp->VK->Prop}
theorem DD (pa:PlainAttrs T)(slot:Slot T name id)(DH:typeOf (.builtin id)=pure (.type "method_descriptor"))(hm:Bk X id r)(ho:PE X o to)
  (kK:attributeBase o name X.env (eval o X.env)=eval o X.env:=by rfl) (lM:(apos.endLine==dJ.line)=true:=by rfl):PE X (.Call (.Attribute o name apos) [] [] dJ) (Hv X.K T r to):=by
 intro pins s σ H Q I h
 refine wpAny_Call_method0_late kK lM (aZ (ho s σ H _ I h) fun v s1 hz_ =>?_)
 refine ae.el hz_ _ ?_
 clear hz_
 rintro x H1 I1 r1 ⟨ty,q1⟩
 obtain⟨h1,h2⟩:=xq I1 r1 ty
 exact⟨T,id,pa,slot,DH,h1,h2,Calls.callWith_builtin rfl (PySem.evalArgs_none (hm s1 σ H1 x [] v [] Q I1 r1 .nil q1))⟩
theorem GD (pa:PlainAttrs T)(slot:Slot T name id)(DH:typeOf (.builtin id)=pure (.type "method_descriptor"))(hm:Bk X id r)(ho:PE X o to)(ha:PA X (e::es) t)
  (kK:attributeBase o name X.env (eval o X.env)=eval o X.env:=by rfl)
  (C5:((backTo dJ (starEach (e::es) X.env)).all (fun x => !x.1)&&(backToKw dJ (keywordEach [] X.env)).all (fun x=>x.1.isSome)
   && decide ((e::es).length+([]:List Keyword).length+(if ([]:List Keyword).isEmpty then 0 else 1)<30))=true:=by rfl)
  (lM:(apos.endLine==dJ.line)=true:=by rfl) (hs:starEach (e::es) X.env=(false,eval e X.env)::starEach es X.env:=by rfl) (rq:(backTo dJ (starEach es X.env)).any (·.1)=false:=by rfl) :
  PE X (.Call (.Attribute o name apos) (e::es) [] dJ) (KP X.K T r to t):=by
 intro pins s σ H Q I h
 refine wpAny_Call_method_late kK C5 lM rfl (aZ (ho s σ H _ I h) fun v s1 hz_ =>?_)
 refine ae.el hz_ _ ?_
 clear hz_
 rintro x H1 I1 r1 ⟨ty,q1⟩
 obtain⟨h1,h2⟩:=xq I1 r1 ty
 refine⟨T,id,pa,slot,DH,h1,h2,?_⟩
 have hA:=ha (pos:=dJ) s1 σ H1 _ I1 q1
 rw[hs] at hA ⊢
 refine Calls.callWith_builtin (by show(false||(backTo dJ (starEach es X.env)).any (·.1))=false;rw[rq]<;>rfl) (Calls.evalArgs_plain ?_)
 exact aZ hA fun us s2 hz_=>ae.el hz_ _ fun vs H2 I2 r2 q2=>hm s2 σ H2 x vs v us Q I2 r1 r2 q2
end
def yH (X:Cx)(id:String)(r:V->List V->Hp->VK->Prop):Prop:=
 ∀ ⦃pins:List (Addr×Obj)⦄ (s:Shared) (σ:St) (H:Hp) (x:V) (xs:List V) (v:Value) (us:List Value) (Q:VK),Inv X pins σ H s->RelV x v->Vals xs us->r x xs H Q ->
  wpAny (model X.prog X.w) X.A (call (.builtin id) (v::us)) (EP X pins σ Q) X.xe s
theorem Vals.hd {x:V}{xs:List V}{us:List Value}(h:Vals (x::xs) us):∃u r,us=u::r/\RelV x u/\Vals xs r:=by
 cases h with|cons a b=>exact⟨_,_,rfl,a,b⟩
theorem Vals.one {x:V}{us:List Value}(h:Vals [x] us):∃u,us=[u]/\RelV x u:=by
 obtain⟨u,r,rfl,a,h⟩:=h.hd
 cases h
 exact⟨_,rfl,a⟩
theorem Vals.two {x y:V}{us:List Value}(h:Vals [x,y] us):∃u v,us=[u,v]/\RelV x u/\RelV y v:=by
 obtain⟨u,r,rfl,a,h⟩:=h.hd
 obtain⟨v,rfl,b⟩:=h.one
 exact⟨_,_,rfl,a,b⟩
theorem Vals.zero:∀{us:List Value},Vals [] us->us=[]
 | _,.nil=>rfl
theorem Vals.dropLast {xs:List V}{us:List Value}(h:Vals xs us):Vals xs.dropLast us.dropLast:=by
 induction h with
 | nil=>exact .nil
 | cons r t ih=>
  cases t with
  | nil=>exact .nil
  | cons q t'=>exact .cons r ih
theorem Vals.eraseIdx:∀{xs:List V} {us:List Value} (i:Nat),Vals xs us->Vals (xs.eraseIdx i) (us.eraseIdx i)
 | _,_,_,.nil =>.nil
 | _,_,0,.cons _ t=>t
 | _,_,i+1,.cons r t =>.cons r (Vals.eraseIdx i t)
theorem Vals.rep {xs:List V}{us:List Value}(h:Vals xs us):∀k:Nat,Vals (Jp k xs).flatten (Jp k us).flatten
 | 0 =>.nil
 | k+1=>by
  rw[Yd,Yd,List.flatten_cons,List.flatten_cons]
  exact Vals.append h (Vals.rep h k)
theorem rW {α:Type}(l:List α):l.eraseIdx (l.length-1)=l.dropLast:=by
 induction l with
 | nil=>rfl
 | cons a r ih=>
  cases r with
  | nil=>rfl
  | cons b r=>
   have e:(a::b::r).length-1=((b::r).length-1)+1:=by
    have h1:(a::b::r).length=r.length+2:=rfl
    have h2:(b::r).length=r.length+1:=rfl
    omega
   rw[e,List.eraseIdx_cons_succ,ih]
   all_goals rfl
theorem mr {α:Type}:∀(l:List α) (i:Nat),(l.eraseIdx i).length<=l.length
 | [],_=>Je _
 | _::_,0=>Yw _
 | _::r,i+1=>Wk (mr r i)
theorem foldl_rep (ay:List Value):∀(k:Nat) (acc:List Value),
  List.foldl (fun x1 x2=>x1++x2) acc.toArray (Jp k ay.toArray)=(acc++(Jp k ay).flatten).toArray
 | 0,acc=>by simp
 | k+1,acc=>by
  have e:acc.toArray++ay.toArray=(acc++ay).toArray:=by simp
  have e2:(acc++ay)++(Jp k ay).flatten=acc++(Jp (k+1) ay).flatten:=by
   rw[Yd,List.flatten_cons,Ul]
  rw[<-e2,<-foldl_rep ay k (acc++ay),<-e,Yd,List.foldl_cons]
section
variable {X:Cx}{pins:List (Addr×Obj)}{σ:St}{H:Hp}{s:Shared}{l b:Addr}{xs ys zs:List V}
theorem Inv.yw {ay its':List Value}{n:Nat}{f:Array Value->Array Value}{t':Nat}(I:Inv X pins σ H s)(hH:H l=some (.lst xs))
  (e:s.heap.get? l=some { cls := .type "list",data := .seq ay.toArray n }) (hf:f ay.toArray=its'.toArray) (hv:Vals ys its') (hz:ys.length<=sizeLine) :
  Inv X pins σ (upd H l (.lst ys)) { s with heap:=s.heap.update l (Obj.mapSeq f),toks:=t' }:=by
 have q:=PySem.IsL.update e f
 rw[hf] at q
 refine I.write (x:=l) (e:=l) (by rw[hH];exact trivial) (.inl rfl) (fun b' u hb hu=>(Uk s.heap (Obj.mapSeq f) (Ne.symm hb)).trans hu) ⟨_,q⟩ ?_
 exact⟨hz,its',_,hv,q⟩
theorem Inv.G8 {ay:List Value}{t':Nat}(I:Inv X pins σ H s)(hv:Vals ys ay)(hz:ys.length<=sizeLine):
  Inv X pins σ (upd H s.heap.objs.size (.lst ys)) { s with heap:=s.heap.push { cls := .type "list",data := .seq ay.toArray },toks:=t' }:=
 I.laid (fun _ _ q=>Jc _ q) (Je _) ⟨hz,ay,0,hv,Js _ rfl⟩
theorem Inv.fresh (I:Inv X pins σ H s):H s.heap.objs.size=none:=I.bb.fresh (Je _)
theorem Inv.m7 (I:Inv X pins σ H s)(hH:H l=some (.lst xs)):xs.length<=sizeLine/\∃(ay:List Value) (n:Nat),Vals xs ay/\xs.length=ay.length/\s.heap.get? l=some { cls := .type "list",data := .seq ay.toArray n }:=by
 obtain⟨z,ay,n,r,e⟩:=I.bb l _ hH
 exact⟨z,ay,n,r,r.length,e⟩
theorem qL {n:Nat}(h:n<=sizeLine):Builtin.List.listTooLong n=false:=by
 unfold Builtin.List.listTooLong
 exact decide_eq_false (by omega)
end
section
variable {X:Cx}
def A2:V->List V->Hp->VK->Prop:=fun x vs H Q=>gO fun l xs y=>x = .ref l/\vs=[y]/\H l=some (.lst xs)/\xs.length<sizeLine/\Q .non (upd H l (.lst (xs++[y])))
theorem uI:yH X "list.append" A2:=by
 intro pins s σ H x vs v us Q I rx rv h
 obtain⟨l,xs,y,rfl,rfl,hH,hz,q⟩:=h
 cases rx
 obtain⟨u,rfl,ru⟩:=rv.one
 obtain⟨z,ay,n,r,hl,e⟩:=I.m7 hH
 refine call_meets F.slot_list_append ⟨_,e,rfl⟩ F.entry_list_append (F.args_list_append_2 _ _) (PySem.list_append l ay.toArray n u (by rw[Jm];omega)) ⟨e,?_⟩
 refine⟨.non,_,I.yw (its':=ay++[u]) hH e (by simp) (r.append (.cons ru .nil)) ?_,rfl,q⟩
 rw[Jf,List.length_singleton]
 omega
def Aw:V->List V->Hp->VK->Prop:=fun x vs H Q=>pW fun l b xs zs=>x = .ref l/\vs=[.ref b]/\H l=some (.lst xs)/\H b=some (.lst zs)/\xs.length+zs.length<=sizeLine/\Q .non (upd H l (.lst (xs++zs)))
theorem uU:yH X "list.extend" Aw:=by
 intro pins s σ H x vs v us Q I rx rv h
 obtain⟨l,b,xs,zs,rfl,rfl,hH,hB,hz,q⟩:=h
 cases rx
 obtain⟨u,rfl,ru⟩:=rv.one
 cases ru
 obtain⟨z,ay,n,r,hl,e⟩:=I.m7 hH
 obtain⟨z2,its2,n2,r2,CK,e2⟩:=I.m7 hB
 have hsz:ay.toArray.size+its2.toArray.size<=sizeLine:=by rw[Jm,Jm];omega
 have xn:¬(!ay.toArray.isEmpty&&Builtin.List.listTooLong (ay.toArray.size+its2.toArray.size))=true:=by
  rw[qL hsz,Bool.and_false]
  exact Ju
 refine call_meets F.slot_list_extend ⟨_,e,rfl⟩ F.entry_list_extend (F.args_list_extend_2 _ _)
  (AutoSeq1.list_extend_list_list_0 l ay.toArray n b its2.toArray n2 xn (by rw[Jm];omega) (by omega)) ⟨e,e2,?_⟩
 refine⟨.non,_,I.yw (its':=ay++its2) hH e (by simp) (r.append r2) ?_,rfl,q⟩
 rw[Jf]
 omega
def Lf:V->List V->Hp->VK->Prop:=fun x vs H Q=>gO fun l xs y=>x = .ref l/\vs=[]/\H l=some (.lst xs)/\xs[xs.length-1]? = some y/\Q y (upd H l (.lst xs.dropLast))
theorem B8:yH X "list.pop" Lf:=by
 intro pins s σ H x vs v us Q I rx rv h
 obtain⟨l,xs,y,rfl,rfl,hH,hy,q⟩:=h
 cases rx
 have QF:=rv.zero
 subst QF
 obtain⟨z,ay,n,r,hl,e⟩:=I.m7 hH
 obtain⟨u,hu,ru⟩:=r.get hy
 have uD:ay.toArray[ay.toArray.size-1]? = some u:=by
  show ay.toArray[ay.length-1]? = some u
  rw[<-Ua,<-hl]
  exact hu
 refine call_meets F.slot_list_pop ⟨_,e,rfl⟩ F.entry_list_pop (F.args_list_pop_1 _) (MeetsSeq.list_pop_last l ay.toArray n u uD (by rw[Jm];omega)) ⟨e,?_⟩
 refine⟨y,_,I.yw (its':=ay.dropLast) hH e ?_ r.dropLast ?_,ru,q⟩
 ·show ay.toArray.eraseIdxIfInBounds (ay.toArray.size-1)=ay.dropLast.toArray
  rw[Jm,List.eraseIdxIfInBounds_toArray,rW]
 ·rw[List.length_dropLast]
  omega
def BV:V->List V->Hp->VK->Prop:=fun x vs H Q=>BM fun l xs i k y=>x = .ref l/\vs=[.int i]/\H l=some (.lst xs) /\ -(2^63)<=i/\i<2^63/\seqIndex? i xs.length=some k/\xs[k]? = some y/\Q y (upd H l (.lst (xs.eraseIdx k)))
theorem vX:yH X "list.pop" BV:=by
 intro pins s σ H x vs v us Q I rx rv h
 obtain⟨l,xs,i,k,y,rfl,rfl,hH,h1,h2,hk,hy,q⟩:=h
 cases rx
 obtain⟨u,rfl,ru⟩:=rv.one
 obtain⟨t,rfl⟩:=ru
 obtain⟨z,ay,n,r,hl,e⟩:=I.m7 hH
 obtain⟨w,hw,rw'⟩:=r.get hy
 refine call_meets F.slot_list_pop ⟨_,e,rfl⟩ F.entry_list_pop (F.args_list_pop_2 _ _)
  (MeetsSeq.list_pop_at l ay.toArray n i t k w (fitsIndex_both h1 h2) (by rw[Jm,<-hl];exact hk) (by rw[<-Ua];exact hw) (by rw[Jm];omega)) ⟨e,?_⟩
 refine⟨y,_,I.yw (its':=ay.eraseIdx k) hH e ?_ (r.eraseIdx k) ?_,rw',q⟩
 ·show ay.toArray.eraseIdxIfInBounds k=(ay.eraseIdx k).toArray
  rw[List.eraseIdxIfInBounds_toArray]
 ·have:=mr xs k
  omega
def Ek:R2:=fun x y H Q=>pW fun l b xs zs=>x = .ref l/\y = .ref b/\H l=some (.lst xs)/\H b=some (.lst zs)/\xs.length+zs.length<=sizeLine/\∀p,H p=none->Q (.ref p) (upd H p (.lst (xs++zs)))
theorem Dg:e8 X (binaryOp .Add) Ek:=by
 intro pins s σ H x y v u Q I rx ry h
 obtain⟨l,b,xs,zs,rfl,rfl,hH,hB,hz,q⟩:=h
 cases rx
 cases ry
 obtain⟨z,ay,n,r,hl,e⟩:=I.m7 hH
 obtain⟨z2,its2,n2,r2,CK,e2⟩:=I.m7 hB
 refine PySem.P.add_list e e2 ?_ (by rw[Jm,Jm];omega)
 have ea:ay.toArray++its2.toArray=(ay++its2).toArray:=by simp
 rw[ea]
 exact⟨.ref _,_,I.G8 (t':=s.toks) (r.append r2) (by rw[Jf];omega),rfl,q _ I.fresh⟩
def G6:R2:=fun x y H Q=>gO fun l k xs=>x = .ref l/\y = .int k/\H l=some (.lst xs) /\ -(2^63)<=k/\k<2^63/\xs.length*k.toNat<=sizeLine /\
 ∀p,H p=none->Q (.ref p) (upd H p (.lst (Jp k.toNat xs).flatten))
theorem len_rep {α:Type}(xs:List α)(k:Nat):(Jp k xs).flatten.length=k*xs.length:=by
 induction k with
 | zero=>simp
 | succ k ih=>rw[Yd,List.flatten_cons,Jf,ih,Nat.succ_mul,Nat.add_comm]
theorem C0:e8 X (binaryOp .Mult) G6:=by
 intro pins s σ H x y v u Q I rx ry h
 obtain⟨l,k,xs,rfl,rfl,hH,h1,h2,hz,q⟩:=h
 cases rx
 obtain⟨t,rfl⟩:=ry
 obtain⟨z,ay,n,r,hl,e⟩:=I.m7 hH
 have hlen:ay.toArray.size*k.toNat<=sizeLine:=by rw[Jm,<-hl];exact hz
 have KH:¬ay.toArray.size*k.toNat>(2^63-1) / 8:=by
  have:(sizeLine:Nat)<=(2^63-1) / 8:=by decide
  omega
 have Km:¬(!Builtin.List.listFitsIndex k)=true:=by
  rw[fitsIndex_both h1 h2]
  exact Ju
 have xn:¬Builtin.List.listTooLong (ay.toArray.size*k.toNat)=true:=by
  rw[qL hlen]
  exact Ju
 have Aq:List.foldl (fun x1 x2=>x1++x2) #[] (Jp (if ay.toArray.isEmpty=true then 0 else k.toNat) ay.toArray)=(Jp k.toNat ay).flatten.toArray:=by
  have f0:∀m:Nat,List.foldl (fun x1 x2=>x1++x2) #[] (Jp m ay.toArray)=(Jp m ay).flatten.toArray:=fun m=>by
   have:=foldl_rep ay m []
   rw[List.nil_append] at this
   exact this
  rw[f0]
  cases ay with
  | nil=>simp
  | cons a r'=>rw[if_neg (by simp)]
 refine wpAny_binaryOp_repeat_ref (T := "list") (U := "int") (by decide) ⟨_,e,rfl⟩ (fun s'=>typeIs_int s' k t) noFill_list_mul F.fills_int_mul F.slot_int_rmul repeat_list F.slot_int_index.lookup
  (call_meets F.slot_int_rmul (typeIs_int s k t) F.entry_int_rmul (F.args_int_rmul_2 _ _) (int___rmul___int_list k t l ay.toArray n)
   ⟨e,rfl,⟨_,e,rfl⟩,call_meets F.slot_list_mul ⟨_,e,rfl⟩ F.entry_list_mul (F.args_list_mul_2 _ _) (AutoListH.list___mul___list_int_3 l ay.toArray n k t Km KH xn) ⟨e,?_⟩⟩)
 rw[Aq]
 exact⟨.ref _,_,I.G8 (t':=s.toks) (r.rep k.toNat) (by rw[len_rep,Nat.mul_comm];exact hz),rfl,q _ I.fresh⟩
end
section
variable {prog:Program}{w:World}{A:Around}{E:Value->Shared->Prop}{s:Shared}
set_option maxRecDepth 100000 in
end
end L2
namespace Att
open PySem PySem.W PySem.Calls PyProof.Rows
theorem jI {P:Params}{h:Heap}:∀(ns:List Int) (vs:List Value),WellAll P h vs (ns.map WData.int)->IntsAre vs ns:=by
 intro ns
 induction ns with
 | nil=>
  intro vs w
  rw[List.map_nil] at w
  cases w
  exact .nil
 | cons n ns ih=>
  intro vs w
  rw[Uj] at w
  cases w with
  | cons a b=>
   cases a
   exact .cons _ _ (ih _ b)
theorem vp {l:OpenLaw}{n:Nat}(hn:l.most=some n){P:Params}{h:Heap}{args:List WData}{vals:List Value}
  (AE:l.row.toRowW.claim.pre args=true) (IK:WellAll P h vals args) :
  ∃a vs ns,vals=[Value.ref a]/\args=[WData.list (ns.map WData.int)]/\h.get? a=some { cls := .type "list",data := .seq vs.toArray } /\ IntsAre vs ns/\ns.length<=n:=by
 have OH:WShape.hasAll [] args [.list .int]=true:=(pre_splitW AE).1
 have hc:l.pre.holds [] { args:=args } = true:=(pre_splitW AE).2
 obtain⟨d,r,rfl,h1,h2⟩:=hasAllW_cons OH
 obtain rfl:=hasAllW_nil h2
 obtain⟨xs,rfl,h3⟩:=hasW_list h1
 obtain⟨ns,rfl⟩:=items_int h3
 have hlen:ns.length<=n:=by
  unfold OpenLaw.pre at hc
  have h4:(WTm.not (.lt (.lit (.int (n:Int))) (.len (.arg 0)))).holds [] { args:=[.list (ns.map .int)] } = true:=by
   have h4:=(holds_andW hc).1
   rw[hn] at h4
   exact h4
  have h5:=condW_of h4 (w_not (w_lt w_lit (w_len_list (w_arg rfl))))
  rw[Ja] at h5
  refine Yz fun q =>?_
  have q':(n:Int)<((ns.length:Nat):Int):=by omega
  first
   | (rw[decide_eq_true q'] at h5;exact absurd h5 (by decide))
   | (simp at h5;omega)
 cases IK with
 | cons w1 w2=>
  cases w2
  cases w1 with
  | list ho gQ=>exact⟨_,_,ns,rfl,rfl,ho,jI ns _ gQ,hlen⟩
theorem uV (l:OpenLaw)(args:List WData):l.row.toRowW.claim.post args (.bool true) args=true:=
 postW_of (r:=l.row.toRowW) (X:=(true==true))
  (show WShape.has [] (.bool true) .bool=true by first|rfl|decide|simp[WShape.has,WShape.arms,WShape.armsAll])
  (show(WTm.eq .res (.lit (.bool true))).value [] { args:=args,res:=some (.bool true),after:=args } = some (.bool (true==true)) from w_eq_bool (w_res rfl) w_lit) rfl
theorem pf {l:OpenLaw}{n:Nat}{q:Program}{loose:List Str}{XP:(Str->Option Value)->Heap->Prop}{YP:World->Heap->Prop}{d:DefRec}
  (hn:l.most=some n) (EB:d.params.defaults=[])
  (call:∀(w:World) (s₀ s₁:Shared) (mg mb:Str->Option Value) (fa:Addr) (o:Obj) (pm cd doc:Value) (a:Addr) (vs:List Value) (ns:List Int),
   Ground q loose [] XP w s₀ mg mb s₁.heap->YP w s₁.heap ->
   s₁.heap.get? fa=some o->o.data = .func (docDef d.name d.params d.body d.scope pm cd doc)->s₁.heap.CodeRec cd d.name->mg d.name=some (.ref fa) ->
   s₁.heap.get? a=some { cls := .type "list",data := .seq vs.toArray } -> IntsAre vs ns->ns.length<=n->s₁.gens = #[] ->
   codeAny (model l.prog w) callerA (.call (.ref fa) ⟨[.ref a],[]⟩) (fun r s'=>r = .ok (.ret (.bool true))/\OldK s₁.heap s'.heap/\s'.os=s₁.os/\AllBare s'.gens) s₁) :
  WalkO q loose XP YP l.row.toRowW d [] (fun f vs=>PySem.call f vs):=by
 intro w s₀ s₁ mg mb G Y fa o pm cd doc dV kV ho hd pU hD hmg hg args vals as AE hlay hrd IK yF
 obtain rfl:dV = .none:=Dflts.none hD EB
 obtain rfl:kV = .none:=Dflts.noKw hD
 obtain⟨a,vs,ns,rfl,rfl,hobj,hints,hlen⟩:=vp hn AE IK
 refine enter_call (codeAny_mono (call w s₀ s₁ mg mb fa o pm cd doc a vs ns G Y ho (fd_plain hd) pU hmg hobj hints hlen hg) fun r s' hq =>?_)
 obtain⟨rfl,h2,h3,h4⟩:=hq
 exact⟨.inl ⟨.bool true,.bool true,[],rfl,fun _=>rfl,.bool true,uV l _,fun _=>⟨List.Pairwise.nil,fun _ hm=>(nomatch hm)⟩⟩,h2,h3,h4⟩
end Att
namespace L2
open PySem PySem.Spec PyProof.Rows
theorem vf {vs:List Value}{ns:List Int}(h:IntsAre vs ns):Vals (ns.map V.int) vs:=by
 induction h with
 | nil=>exact .nil
 | cons n t h ih=>exact .cons ⟨t,rfl⟩ ih
noncomputable def fA (s:Stmt):Arguments:=match s with
 | .FunctionDef _ a _ _ _ _ _ _ _ _=>a
 | _=>{ posonlyargs:=[],args:=[],vararg:=none,kwonlyargs:=[],kw_defaults:=[],kwarg:=none,defaults:=[] }
noncomputable def dA (s:Stmt):List Stmt:=match s with
 | .FunctionDef _ _ b _ _ _ _ _ _ _=>b
 | _=>[]
noncomputable def aA (s:Stmt):Scope:=match s with
 | .FunctionDef _ _ _ _ _ _ sc _ _ _=>sc
 | _=>{ kind := .function,names:=[],isGenerator:=false,isCoroutine:=false }
abbrev fI:uy:=fun _ _ _ _ _ _=>False
abbrev E0:XK:=fun _ _ _=>False
theorem GL {X:Cx}:Passes fI X E0:=fun _ _ _ _ _ _ _ h=>h.elim
structure dj (K:Jb)(x qual:Str)(st:Stmt)(f:Addr)(fd:FuncData):Prop where
 ex:∃(oc:Value) (od:Option Addr) (kV doc pm:Value) (an:Option Addr) (dZ ct:Value) (AO:Array (Option Value)),
  fd=We x qual (fA st) (dA st) (aA st) .none kV doc pm an dZ ct/\K.lookup f=some ⟨oc,od,.func fd,AO⟩/\PySem.W.codeIn K dZ qual=true
 kp:PySem.W.keepIn K (.ref f)=true
section
variable {P:Program}{w:World}{K:Jb}{mg:Str->Option Value}{base:Heap}
theorem dj.ok {x qual:Str}{st:Stmt}{f:Addr}{fd:FuncData}{N ps:List Str}{k:Nat}{sp:Sp}(F:dj K x qual st f fd)(S:aO N ps (aA st))(len:∀vs H Q E,sp vs H Q E->vs.length=ps.length)
  (kN:∀(dZ:Value) (A:Around) (outer:List Env) (s:Shared) (H:Hp) (vs:List V) (Q:VK) (E:XK),dM k (A.deeper (envOfC qual (aA st) s.heap.objs.size f dZ))->sp vs H Q E ->
   ∃t,tH (oX fI P w K mg base N qual (aA st) f dZ A outer s H E).Dy (dA st) t/\t { nx:=fun _ H'=>Q .non H',rt:=Q } (start N vs) H):bW P w K mg base fI (k+1) f fd ps sp:=by
 obtain⟨oc,od,kV,doc,pm,an,dZ,ct,AO,rfl,lk,pU⟩:=F.ex
 refine BA lk pU S len fun A outer s H vs Q E hr yU =>?_
 obtain⟨t,h,q⟩:=kN dZ A outer s H vs Q E hr yU
 exact⟨t,h.Dy,q⟩
theorem dj.binds {x qual:Str}{st:Stmt}{f:Addr}{fd:FuncData}{ps:List Str}(F:dj K x qual st f fd)
  (h:∀(kV doc pm:Value) (an:Option Addr) (dZ ct:Value) (us:List Value),us.length=ps.length->bindArgs (We x qual (fA st) (dA st) (aA st) .none kV doc pm an dZ ct) ⟨us,[]⟩=pure (ps.zip us)):Binds K fd ps []:=by
 obtain⟨oc,od,kV,doc,pm,an,dZ,ct,AO,rfl,lk,pU⟩:=F.ex
 exact .all (h kV doc pm an dZ ct)
theorem bC {x qual:Str}{st:Stmt}{f:Addr}{oc:Value}{od an:Option Addr}{AO:Array (Option Value)}{kV doc pm dZ ct:Value}(l:K.lookup f=some ⟨oc,od,.func (We x qual (fA st) (dA st) (aA st) .none kV doc pm an dZ ct),AO⟩)
  (c:PySem.W.codeIn K dZ qual=true) (k:PySem.W.keepIn K (.ref f)=true):dj K x qual st f (We x qual (fA st) (dA st) (aA st) .none kV doc pm an dZ ct):=⟨⟨oc,od,kV,doc,pm,an,dZ,ct,AO,rfl,l,c⟩,k⟩
end
theorem jB {A:Around}{k:Nat}(hr:dM k A):A.units+1<cLine:=Ub (U4 (by decide:1<=64) _) hr.units
section
variable {X:Cx}
theorem pv (i:Nat){x:Str}{pos:Pos}(hN:X.N[i]? = some x:=by rfl)(hv:FF X.env.scope x:=by first|exact Or.inl rfl|exact Or.inr (Or.inl rfl)|exact Or.inr (Or.inr rfl))(hd:(x==("__debug__" : Str))=false:=by decide)
  (pU:(x==("__classdict__" : Str))=false:=by decide):PE X (.Name x pos) (zZ i):=Dm hN hv hd pU
end
theorem bI {A B:Prop}(h:B):if false=true then A else B:=by
 rw[if_neg Ju]
 exact h
theorem bK {A B:Prop}(h:A):if true=true then A else B:=by
 rw[if_pos rfl]
 exact h
theorem fe {c A B:Prop}[Decidable c](h1:c->A)(h2:¬c->B):if c then A else B:=by
 by_cases h:c
 ·rw[if_pos h]
  exact h1 h
 ·rw[if_neg h]
  exact h2 h
def aj (H H':Hp):Prop:=∀b o,H b=some o->H' b=some o
theorem aj.refl (H:Hp):aj H H:=fun _ _ h=>h
theorem aj.trans {H H1 H2:Hp}(a:aj H H1)(b:aj H1 H2):aj H H2:=fun c o h=>b c o (a c o h)
theorem aj.free {H H':Hp}(e:aj H H'){l:Addr}(h:H' l=Option.none):H l=Option.none:=by
 cases q:H l with
 | none=>rfl
 | some o=>
  rw[e l o q] at h
  cases h
theorem aj.seq {K:Jb}{H H':Hp}{a:Addr}{xs:List V}(e:aj H H')(h:aK K H a xs):aK K H' a xs:=by
 rcases h with (h|⟨o,h⟩)|h
 ·exact .inl (.inl (e _ _ h))
 ·exact .inl (.inr ⟨o,e _ _ h⟩)
 ·exact .inr h
section
variable {X:Cx}
theorem jq:cj X (.builtin "len") (fun xs H Q=>∃a kvs,xs=[V.ref a]/\H a=some (.dK kvs)/\Q (.int kvs.length) H):=by
 intro pins s σ H xs us Q I r h
 obtain⟨a,kvs,rfl,ha,q⟩:=h
 obtain⟨u,rfl,ru⟩:=vals1 r
 cases ru
 exact Gv I (.inl ha) fun t s' I'=>⟨.int kvs.length,H,I',⟨t,rfl⟩,q⟩
end
section
variable {κ:Type}[DecidableEq κ]
theorem kG {kvs:List (κ×V)}{k: κ}(h:aW kvs k=none):¬k∈kvs.map (·.1):=by
 intro m
 obtain⟨p,hp,e⟩:=Ug.mp m
 have q:(kvs.any fun kv=>decide (kv.1=k))=true:=List.any_eq_true.mpr ⟨p,hp,decide_eq_true e⟩
 rw[d6,h] at q
 exact absurd q (by simp)
theorem oQ {kvs:List (κ×V)}{k: κ}{v:V}(h:aW kvs k=some v):k∈kvs.map (·.1):=by
 have q:(kvs.any fun kv=>decide (kv.1=k))=true:=by
  rw[d6,h]
  all_goals rfl
 obtain⟨p,hp,e⟩:=List.any_eq_true.mp q
 exact Ug.mpr ⟨p,hp,of_decide_eq_true e⟩
theorem tK:∀{l:List κ} {k: κ},l.Nodup->¬k∈l->(l++[k]).Nodup
 | [],k,_,_=>by simp
 | a::r,k,h,hk=>by
  obtain⟨h1,h2⟩:=U1.mp h
  show(a::(r++[k])).Nodup
  refine U1.mpr ⟨fun m =>?_,tK h2 fun m=>hk (Uh.mpr (Or.inr m))⟩
  rcases Jh.mp m with q|q
  ·exact h1 q
  ·exact hk (Uh.mpr (Or.inl (Jg.mp q).symm))
end
end L2
set_option maxHeartbeats 4000000
namespace L2
open PySem PySem.Spec PyProof.Rows
abbrev fL:Value->Shared->Prop:=fun _ _=>False
theorem bE {α:Type}{M:Model}{A:Around}{t:Sem α}{Q: α->Shared->Prop}{E:Value->Shared->Prop}{s:Shared}(h:wpAny M A t Q fL s):wpAny M A t Q E s:=
 wpAny_mono h (fun _ _ q=>q) fun _ _ z=>z.elim
theorem cE {a b:Addr}{n:Nat}(h:a<n)(h':n<=b):a≠b:=fun e=>absurd (Jt h h') (by rw[e];exact U7 _)
theorem qh {a b:Addr}{n:Nat}(h:a<n)(h':n<=b):b≠a:=fun e=>cE h h' e.symm
theorem ik (env:Env):∀(names:List (Str×NameKind)) (acc:List (Str×Addr)),
  (∀y∈names,y.2 = .free->∃c,env.cells.lookup y.1=some c)->(∀n c,acc.lookup n=some c->env.cells.lookup n=some c) ->
  ∃cl,(forIn names acc fun(x:Str×NameKind) (cs:List (Str×Addr))=>(if (x.2==NameKind.free)=true then do
    let a <-cellOf env x.1
    pure (ForInStep.yield ((x.1,a)::cs)) else pure (ForInStep.yield cs):Sem (ForInStep (List (Str×Addr)))))=pure cl /\
   (∀n c,cl.lookup n=some c->env.cells.lookup n=some c)/\(∀n c,acc.lookup n=some c->∃c',cl.lookup n=some c')/\∀y∈names,y.2 = .free->∃c,cl.lookup y.1=some c
 | [],acc,_,h2=>⟨acc,rfl,h2,fun _ c h=>⟨c,h⟩,fun _ h=>nomatch h⟩
 | (n,k)::r,acc,h1,h2=>by
  have hr:∀y∈r,y.2 = .free->∃c,env.cells.lookup y.1=some c:=fun y hy=>h1 y (Jn _ hy)
  by_cases hk:k = .free
  ·subst hk
   obtain⟨c,hc⟩:=h1 (n,.free) Jq rfl
   obtain⟨cl,e,p1,p2,p3⟩:=ik env r ((n,c)::acc) hr (fun m d hm=>by
    rw[Us] at hm
    by_cases q:m==n
    ·rw[q] at hm
     have:m=n:=by simpa using q
     subst this
     cases hm
     exact hc
    ·have q':(m==n)=false:=by simpa using q
     rw[q'] at hm
     exact h2 m d hm)
   refine⟨cl,?_,p1,fun m d hm =>?_,fun y hy hf =>?_⟩
   ·rw[List.forIn_cons]
    rw[<-e]
    show(cellOf env n >>= fun a=>_) >>= _=_
    unfold cellOf
    rw[hc]
    rfl
   ·by_cases q:m=n
    ·subst q
     exact p2 m c (by rw[Us];simp)
    ·exact p2 m d (by rw[Us];simp -iota only [beq_eq_false_iff_ne.mpr q];exact hm)
   ·rcases Uh.mp hy with rfl|hy
    ·exact p2 n c (by rw[Us];simp)
    ·exact p3 y hy hf
  ·refine ae.el (ik env r acc hr h2) _ ?_
   rintro cl e p1 p2 p3
   refine⟨cl,?_,p1,p2,fun y hy hf =>?_⟩
   ·rw[List.forIn_cons,<-e]
    have hb:(k==NameKind.free)=false:=by simpa using hk
    simp -iota only [hb,J9,if_false]
    rfl
   ·rcases Uh.mp hy with rfl|hy
    ·exact absurd hf hk
    ·exact p3 y hy hf
theorem ig {scope:Scope}{env:Env}(h:∀y∈scope.names,y.2 = .free->∃c,env.cells.lookup y.1=some c):
  ∃cl,closureFor scope env=pure cl/\(∀n c,cl.lookup n=some c->env.cells.lookup n=some c)/\∀y∈scope.names,y.2 = .free->∃c,cl.lookup y.1=some c:=by
 obtain⟨cl,e,p1,_,p3⟩:=ik env scope.names [] h (fun n c h=>by simp at h)
 refine⟨cl,?_,p1,p3⟩
 unfold closureFor
 refine Eq.trans ?_ (congrArg (fun m=>m >>= fun(cs:List (Str×Addr))=>(pure cs:Sem _)) e)
 rfl
noncomputable def oy (ifs:List Expr)(env:Env):Sem Bool:=forIn ifs true fun c r=>if r=true then do let ok <-isTrue c env (eval c env);pure (ForInStep.yield ok) else pure (ForInStep.yield r)
section
variable {prog:Program}{w:World}{A:Around}{R:Result->Shared->Prop}{s:Shared}
theorem qT {elt target iter:Expr}{ifs:List Expr}{scope:Scope}{pos:Pos}{it acc:Value}{env:Env}(I:Nat->Shared->Prop)
  (turn:∀n s,I n s->wpAny (model prog w) A (pyNext it) (fun r s1=>match r with
   | none=>R (.ok .next) s1
   | some v=>wpAny (model prog w) A (letOwnedTupleGo target it v) (fun _ s1'=>wpAny (model prog w) A (assign target env v) (fun _ s2=>
     wpAny (model prog w) A (oy ifs env) (fun ok s3=>
      if ok=true then wpAny (model prog w) A (eval elt env) (fun x s4=>
       wpAny (model prog w) A (call (.builtin "list.append") [acc,x]) (fun _ s5=>∃m,m<n/\I m s5) fL s4) fL s3
      else ∃m,m<n/\I m s3) fL s2) fL s1') fL s1) fL s)
  (n:Nat) (h:I n s):codeAny (model prog w) A (.compLoop (.ListComp elt [⟨target,iter,ifs,0⟩] scope pos) 0 it acc env) R s:=by
 refine codeAny_loop rfl I (fun n s hI=>(show wpAny _ A (Sem.onRaise (compTurn (.ListComp elt [⟨target,iter,ifs,0⟩] scope pos) 0 it acc env) (fun x=>do noteFrame x env;theTreesLotGoes x)) _ _ s from wpAny_noted ?_)) n h
 rw[compTurn_list]
 refine wpAny_bind (wpAny_standAt (wpAny_bind (bE (aZ (turn n s hI) fun r s1 h1 =>?_))))
 cases r with
 | none=>exact wpAny_pure h1
 | some v=>
  refine wpAny_bind (bE (aZ h1 fun _ s1' h1' =>?_))
  refine wpAny_bind (bE (aZ h1' fun _ s2 h2=>wpAny_bind (bE (aZ h2 fun ok s3 h3 =>?_))))
  cases ok with
  | false=>exact wpAny_pure ⟨rfl,h3⟩
  | true=>exact wpAny_bind (wpAny_bind (bE (aZ h3 fun x s4 h4=>wpAny_bind (bE (aZ h4 fun _ s5 h5=>wpAny_pure (wpAny_pure ⟨rfl,h5⟩))))))
end
theorem fK.adopt {P:Program}{w:World}{H:Hp}{h:Heap}{a:Addr}{o:HO}(x:fK P w H h)(hn:H a=none)(new:bF P w (upd H a o) h a o):fK P w (upd H a o) h:=fun b u e=>by
 by_cases hb:b=a
 ·subst hb;rw[ax] at e;cases e;exact new
 ·rw[ak hb] at e
  exact(x b u e).lW (fun c v _ q=>q) (fun c q=>by rw[ak (aq q hn)];exact q) fun c xs q=>by rw[ak (aq q hn)];exact q
structure dQ (X:Cx)(scope:Scope)(Nc Fc:List Str)(js:List Nat):Prop where
 kind:scope.kind = .function
 nocell:∀y∈scope.names,y.2 ≠ .cell
 names:∀y∈scope.names,y.2 = .local->scope.names.lookup y.1=some .local
 free:∀y∈scope.names,y.2 = .free->X.env.kindOf y.1=some .cell∨X.env.kindOf y.1=some .free
 frees:∀(k:Nat) (x:Str),Fc[k]? = some x->scope.names.lookup x=some .free/\∃j,js[k]? = some j/\X.N[j]? = some x
 lens:js.length=Fc.length
noncomputable def cR (σ:St)(js:List Nat):St:=js.map fun j=>(σ[j]?).join
noncomputable def fu (X:Cx)(Nc Fc:List Str)(scope:Scope)(cl:List (Str×Addr))(C:Addr)(s:Shared)(H:Hp)(fp:List Addr):Cx:=
 { X with N:=Nc++Fc,s₀:=s,H₀:=H,env:=compEnvC scope cl C X.env,outer:=X.stack,stack:=X.stack,ex:=fp,fn:=fun _=>false,pn:=[],xe:=fL }
theorem fB {env:Env}:∀{names:List (Str×NameKind)} {x:Str} {k:NameKind},(names.map fun(n,k)=>if (k==NameKind.free&&env.scope.kind == .function&&env.kindOf n==some .cell) then (n,NameKind.cell) else (n,k)).lookup x=some k ->
  names.lookup x=some k∨(k = .cell/\names.lookup x=some .free)
 | [],_,_,h=>by simp at h
 | (n,k0)::r,x,k,h=>by
  have ih := @fB env r x k
  rw[Uj] at h
  dsimp only at h
  by_cases hx:x=n
  ·subst hx
   by_cases hc:(k0==NameKind.free&&env.scope.kind == .function&&env.kindOf x==some .cell)=true
   ·rw[if_pos hc] at h
    simp -iota only [Us,beq_self_eq_true] at h
    have hk:k0 = .free:=by
     have:=(Uv _ _).mp ((Uv _ _).mp hc).1
     simpa using this.1
    subst hk
    cases h
    exact .inr ⟨rfl,by simp only[Us,beq_self_eq_true]⟩
   ·rw[if_neg hc] at h
    simp -iota only [Us,beq_self_eq_true] at h ⊢
    exact .inl h
  ·have hb:(x==n)=false:=beq_eq_false_iff_ne.mpr hx
   have e:List.lookup x ((if (k0==NameKind.free&&env.scope.kind == .function&&env.kindOf n==some .cell)=true then (n,NameKind.cell) else (n,k0))::(r.map fun(n,k)=>if (k==NameKind.free&&env.scope.kind == .function&&env.kindOf n==some .cell) then (n,NameKind.cell) else (n,k)))=some k:=h
   have e2:List.lookup x (r.map fun(n,k)=>if (k==NameKind.free&&env.scope.kind == .function&&env.kindOf n==some .cell) then (n,NameKind.cell) else (n,k))=some k:=by
    by_cases hc:(k0==NameKind.free&&env.scope.kind == .function&&env.kindOf n==some .cell)=true
    ·rw[if_pos hc] at e;simp -iota only [Us,hb] at e;exact e
    ·rw[if_neg hc] at e;simp -iota only [Us,hb] at e;exact e
   simp -iota only [Us,hb]
   exact ih e2
theorem dW {env:Env}:∀{names:List (Str×NameKind)} {x:Str},names.lookup x=some .free ->
  (names.map fun(n,k)=>if (k==NameKind.free&&env.scope.kind == .function&&env.kindOf n==some .cell) then (n,NameKind.cell) else (n,k)).lookup x=some .cell ∨
  (names.map fun(n,k)=>if (k==NameKind.free&&env.scope.kind == .function&&env.kindOf n==some .cell) then (n,NameKind.cell) else (n,k)).lookup x=some .free
 | [],_,h=>by simp at h
 | (n,k0)::r,x,h=>by
  have ih := @dW env r x
  rw[Uj]
  dsimp only
  by_cases hx:x=n
  ·subst hx
   simp -iota only [Us,beq_self_eq_true] at h
   cases h
   by_cases hc:(NameKind.free==NameKind.free&&env.scope.kind == .function&&env.kindOf x==some .cell)=true
   ·rw[if_pos hc];left;simp only[Us,beq_self_eq_true]
   ·rw[if_neg hc];right;simp only[Us,beq_self_eq_true]
  ·have hb:(x==n)=false:=beq_eq_false_iff_ne.mpr hx
   simp -iota only [Us,hb] at h
   by_cases hc:(k0==NameKind.free&&env.scope.kind == .function&&env.kindOf n==some .cell)=true
   ·rw[if_pos hc];simp -iota only [Us,hb];exact ih h
   ·rw[if_neg hc];simp -iota only [Us,hb];exact ih h
theorem cn:∀{l:List (Str×NameKind)} {x:Str} {k:NameKind},l.lookup x=some k->(x,k)∈l:=fun h=>PySem.mem_of_lookup h
section
variable {X:Cx}{pins:List (Addr×Obj)}{σ:St}{H:Hp}{s:Shared}{scope:Scope}{Nc Fc:List Str}{js:List Nat}{cl:List (Str×Addr)}{C D:Addr}{fp:List Addr}
theorem kY {x:Str}:(fu X Nc Fc scope cl C s H fp).env.kindOf x=(scope.names.map fun(n,k)=>if (k==NameKind.free&&X.env.scope.kind == .function&&X.env.kindOf n==some .cell) then (n,NameKind.cell) else (n,k)).lookup x:=rfl
theorem kX (I:Inv X pins σ H s)(c:dQ X scope Nc Fc js)(dr:∀n c,cl.lookup n=some c->X.env.cells.lookup n=some c)(gS:∀y∈scope.names,y.2 = .free->∃c,cl.lookup y.1=some c)
  (hC:s.heap.objs.size<=C) (hf:∀b∈fp,eO X pins H b) (ho:∀b∈fp,∃o,s.heap.get? b=some o):(fu X Nc Fc scope cl C s H fp).Ok where
 mod:=I.ok.mod
 kind:=c.kind
 glob:=I.ok.glob
 blt:=I.ok.blt
 above:=hC
 inj:=fun x y a h1 h2=>I.ok.inj x y a (dr _ _ h1) (dr _ _ h2)
 has:=fun x hx=>by
  have key:scope.names.lookup x=some .free:=by
   rw[kY] at hx
   rcases hx with h|h
   ·rcases fB h with q|⟨_,q⟩
    ·exact absurd rfl (c.nocell _ (cn q))
    ·exact q
   ·rcases fB h with q|⟨q,_⟩
    ·exact q
    ·cases q
  exact gS _ (cn key) rfl
 cab:=fun _ _ h=>nomatch h
 hd:=I.ok.hd
 frames:=I.ok.frames
 stk := .inl rfl
 exf:=fun b hb=>⟨fun z=>by
   obtain⟨o,e⟩:=ho b hb
   exact cE (Jj e) hC z,fun x a e z=>(hf b hb).2.2.2.2.1 x a (dr _ _ e) z⟩
 bs:=fun b o e=>I.bs b o e
 bsz:=Jr I.ok.bsz I.sz
 noex:=fun b o e hb=>by
  rcases(hf b hb).2.2.2.1 with z|z
  ·exact I.ok.noex b o e z
  ·exact absurd (Jt (Jj (I.ok.bs b o e).1) z) (U7 _)
 exfs:=fun b hb z=>by
  rcases Uh.mp (I.oK b z) with q|q
  ·exact(hf b hb).2.1 q
  ·exact(hf b hb).2.2.1 q
 jv:=I.stack
 vV:=I.tR
theorem Au (I:Inv X pins σ H s)(c:dQ X scope Nc Fc js)(dr:∀n c,cl.lookup n=some c->X.env.cells.lookup n=some c)(gS:∀y∈scope.names,y.2 = .free->∃c,cl.lookup y.1=some c)
  (hC:s.heap.objs.size<=C) (hD:s.heap.objs.size<=D) (D9:D≠C) (hf:∀b∈fp,eO X pins H b) (ho:∀b∈fp,∃o,s.heap.get? b=some o) {h1:Heap} {t1:Nat} {m:Str->Option Value} {ob:Obj}
  (hk:∀b o,s.heap.get? b=some o->h1.get? b=some o) (hm:h1.Ns C m) (QA:h1.get? D=some ob) (Le:∀v,ob.data ≠ .cell v) :
  Inv (fu X Nc Fc scope cl C s H fp) [(D,ob)] (Jp Nc.length none++cR σ js) H { s with heap:=h1,toks:=t1 }:=by
 refine⟨kX I c dr gS hC hf ho,rfl,I.bare,Un.kept hk,⟨m,hm,fun i x v e1 e2 e3 =>?_⟩,fun x a e =>?_,I.bb.fresh hC,fun x a e=>I.freeC x a (dr x a e),fun p hp =>?_,I.bb.kept hk,?_⟩
 ·have e1:(Nc++Fc)[i]? = some x:=e1
  have e2:(Jp Nc.length none++cR σ js)[i]? = some (some v):=e2
  by_cases hi:i<Nc.length
  ·rw[J6 (by simpa using hi),U0] at e2
   split at e2<;>cases e2
  ·rw[Jz (by omega)] at e1
   rw[Jz (by rw[Uo];omega),Uo] at e2
   refine ae.el (c.frees _ _ e1) _ ?_
   rintro hfr j hj hN
   have hv: σ[j]? = some (some v):=by
    unfold cR at e2
    rw[Jk,hj] at e2
    have e2:some ((σ[j]?).join)=some (some v):=e2
    cases q: σ[j]? with
    | none=>rw[q] at e2;cases e2
    | some z=>rw[q] at e2;cases e2;rfl
   have kx:=c.free _ (cn hfr) rfl
   refine ae.el (I.loc) _ ?_
   rintro m0 hn0 hl0
   have LV:FF X.env.scope x:=by
    rcases kx with k|k
    ·exact .inr (.inl k)
    ·exact .inr (.inr k)
   refine ae.el (hl0 j x v hN hv LV) _ ?_
   rintro u ru lk
   refine⟨u,ru,.inr ⟨?_,?_⟩⟩
   ·rw[kY];exact dW hfr
   ·obtain⟨a,ha⟩:=gS _ (cn hfr) rfl
    refine⟨a,ha,?_⟩
    rcases lk with ⟨k,_⟩|⟨_,a',ha',hcell⟩
    ·rcases kx with q|q<;>(rw[k] at q;cases q)
    ·have e:=dr _ _ ha
     dsimp only at e
     rw[ha'] at e;cases e
     exact hcell.keeps hk
 ·obtain⟨v,z⟩:=I.cell x a (dr x a e)
  exact⟨v,z.keeps hk⟩
 ·have hp:p=(D,ob):=by
   have:p∈[(D,ob)]:=hp
   simpa using this
  subst hp
  refine⟨QA,I.bb.fresh hD,D9,fun z =>?_,Le⟩
  have z:D∈nq X.stack:=z
  rcases Uh.mp (I.oK D z) with q|q
  ·exact qh I.lt hD q
  ·exact I.GG hD q
 ·show(Jp Nc.length none++cR σ js).length=(Nc++Fc).length
  unfold cR
  rw[Jf,Jf,Uo,Ja,c.lens]
end
def Bp (X:Cx)(ifs:List Expr)(t:TT):Prop:=
 ∀ ⦃pins:List (Addr×Obj)⦄ (s:Shared) (σ:St) (H:Hp) (Q:Bool->Hp->Prop),Inv X pins σ H s->t σ H Q->wpAny (model X.prog X.w) X.A (oy ifs X.env) (TP X pins σ Q) X.xe s
def fh:TT:=fun _ H Q=>Q true H
theorem aX {X:Cx}:Bp X [] fh:=fun _ _ _ H _ I h=>wpAny_tests_nil ⟨H,I,h⟩
theorem iD {X:Cx}{c:Expr}{t:TT}(h:PT X c t):Bp X [c] t:=fun pins s σ H Q I hw=>wpAny_tests_one (h s σ H Q I hw)
def tG (J:It)(n:Nat)(js:List Nat)(g:TG)(tc:TT)(te:TE)(σ:St)(H1:Hp)(fin:List V->Hp->Prop):Prop:=
 ∃W:Nat->Nat->List V->Hp->Prop,(∃m,W 0 m [] H1)/\∀i m ys H,W i m ys H ->
  (J.stop i H/\fin ys H) ∨
  (J.go i H/\ys.length<sizeLine/\∀x H',J.yld i H x H'->g x (Jp n none++cR σ js) H' fun σ2 H2=>tc σ2 H2 fun b H3=>
   if b=true then te σ2 H3 fun y H4=>∃m',m'<m/\W (i+1) m' (ys++[y]) H4 else ∃m',m'<m/\W (i+1) m' ys H3)
def fY (wi:TI)(n:Nat)(js:List Nat)(g:TG)(tc:TT)(te:TE):TE:=fun σ H Q=>wi σ H fun J H1=>
 tG J n js g tc te σ H1 fun ys H2=>∀p,H2 p=none->Q (.ref p) (upd H2 p (.lst ys))
def Gk (n:Nat)(g:TG):Prop:=∀x σ H Q,g x σ H Q->g x σ H fun σ' H'=>Q σ' H'/\(∀j,n<=j -> σ'[j]? = σ[j]?) /\ σ'.length = σ.length
def HL (n:Nat)(g:uz):Prop:=∀x σ H Q,g x σ H Q->g x σ H fun σ' H'=>Q σ' H'/\(∀j,n<=j -> σ'[j]? = σ[j]?) /\ σ'.length = σ.length
theorem az {n i:Nat}(h:i<n:=by decide):Gk n (fM i):=fun x σ H Q q=>⟨q,fun j hj=>List.getElem?_set_ne (by omega),List.length_set⟩
theorem dB {n:Nat}:HL n DJ:=fun x σ H Q q=>⟨q.1,q.2,fun _ _=>rfl,rfl⟩
theorem aU {n:Nat}{t:TG}{u:uz}(h1:Gk n t)(h2:HL n u)(mt:∀x σ H Q Q',(∀a b,Q a b->Q' a b)->t x σ H Q->t x σ H Q')(mu:∀x σ H Q Q',(∀a b,Q a b->Q' a b)->u x σ H Q->u x σ H Q'):HL n (xJ t u):=fun x σ H Q q=>by
 obtain⟨v,r,e,q⟩:=q
 refine⟨v,r,e,mt _ _ _ _ _ (fun σ1 H1 z =>?_) (h1 _ _ _ _ q)⟩
 refine ae.el (z) _ ?_
 rintro z k1 l1
 exact mu _ _ _ _ _ (fun σ2 H2 ⟨z2,k2,l2⟩=>⟨z2,fun j hj=>(k2 j hj).trans (k1 j hj),l2.trans l1⟩) (h2 _ _ _ _ z)
theorem eY {K:Jb}{n m:Nat}{t:uz}(h:HL n t):Gk n (DS K m t):=fun x σ H Q q=>by
 obtain⟨a,xs,e,h1,h2,q⟩:=q
 exact⟨a,xs,e,h1,h2,h _ _ _ _ q⟩
theorem mU {X:Cx}{elt tg iter:Expr}{ifs:List Expr}{scope:Scope}{pos:Pos}{Nc Fc:List Str}{js:List Nat}{wi:TI}{g:TG}{tc:TT}{te:TE}{use:Option (Value->Sem Unit)}{QV:Value->Shared->Prop}
  (cP:X.calm=true) (c:dQ X scope Nc Fc js) (hi:PI X tg iter wi)
  (hg:∀cl C s H fp,PG (fu X Nc Fc scope cl C s H fp) tg g) (yr:∀cl C s H fp,Bp (fu X Nc Fc scope cl C s H fp) ifs tc) (Gx:∀cl C s H fp,PE (fu X Nc Fc scope cl C s H fp) elt te) (gk:Gk Nc.length g)
  {pins:List (Addr×Obj)} {s:Shared} {σ:St} {H:Hp} {fin:List V->Hp->Prop} (I:Inv X pins σ H s)
  (h:wi σ H fun J H1=>tG J Nc.length js g tc te σ H1 fin)
  (behind:∀(C D:Addr) (m:Str->Option Value) (ys:List V) (H2:Hp) (s2:Shared),Inv X pins σ (upd H2 D (.lst ys)) s2->s2.heap.Ns C m->eO X pins (upd H2 D (.lst ys)) C->H2 D=none->fin ys H2->compPost (model X.prog X.w) X.A X.xe use QV (.ref D) C (.ok .next) s2)
  (hs:∀x,foldedSetIterable iter X.env x=pure x) :
  wpAny (model X.prog X.w) X.A (comprehension (.ListComp elt [⟨tg,iter,ifs,0⟩] scope pos) scope X.env (firstIterPos [⟨tg,iter,ifs,0⟩] pos) (newList []) false (eval iter X.env) use) QV X.xe s:=by
 obtain⟨cl,hclos,dr,gS⟩:=ig (scope:=scope) (env:=X.env) fun y hy hf=>I.ok.has y.1 (c.free y hy hf)
 refine wpAny_comprehension_free (use:=use) rfl hs hclos c.kind c.names ?_
 refine aZ (hi s σ H _ I h) fun v s1 h1=>aZ h1 fun D4 s2 h2 =>?_
 obtain⟨it,fp,tn,J,H2,e,I2,T,bN,f2,W,⟨m0,w0⟩,turn⟩:=h2
 subst e
 refine wpAny_newObj_type (wpAny_newFunctionEnv c.nocell (by intro y hy;simp at hy) (fun h1 hns1 hsb1 =>?_) c.kind)
 dsimp only at hns1 hsb1 ⊢
 generalize hG:s2.heap.push { cls := .type "list",dict:=none,data := .seq ([]:List Value).toArray } = G at hns1 hsb1 ⊢
 have hC:G.objs.size=s2.heap.objs.size+1:=by rw[<-hG,Wl]
 have D9:s2.heap.objs.size≠G.objs.size:=by rw[hC];exact Jw (Nat.lt_succ_self _)
 have hle:s2.heap.objs.size<=G.objs.size:=by rw[hC];exact Yw _
 have old:∀b o,s2.heap.get? b=some o->h1.get? b=some o:=fun b o e=>
  hsb1.extBut b o (cE (Jj e) hle) (Jc _ (hG▸Jc _ e))
 have oD:h1.PlainList s2.heap.objs.size #[]:=⟨_,hsb1.extBut _ _ D9 (Jc _ (hG▸Js _ rfl))⟩
 obtain⟨n0,oD⟩:=oD
 have fo:∀b∈fp,∃o,s2.heap.get? b=some o:=fun b hb=>let ⟨o,e,_⟩:=T.obj 0 _ bN b hb; ⟨o,e⟩
 have lP:∀b∈fp,b<s2.heap.objs.size:=fun b hb=>let ⟨o,e⟩:=fo b hb;Jj e
 let Xc:Cx:=fu X Nc Fc scope cl G.objs.size s2 H2 fp
 let D:Addr:=s2.heap.objs.size
 have fC:∀{pl:List (Addr×Obj)} {H':Hp},(∀p∈pl,p.1=D)->(∀b∈fp,H' b=none)->∀b∈fp,eO Xc pl H' b:=fun{pl H'} hp hn b hb=>by
  refine⟨hn b hb,?_,?_,.inl hb,fun x a e =>?_,fun p hq =>?_⟩
  ·exact cE (lP b hb) hle
  ·exact(kX I2 c dr gS hle f2 fo).exfs b hb
  ·exact(f2 b hb).2.2.2.2.1 x a (dr _ _ e)
  ·have q:p∈([]:List (Addr×Obj))++pl:=hq
   rw[hp p (by simpa using q)]
   exact qh (lP b hb) (Je _)
 have loop:∀t1,codeAny (model X.prog X.w) X.A (.compLoop (.ListComp elt [⟨tg,iter,ifs,0⟩] scope pos) 0 (.ref it) (.ref s2.heap.objs.size) (compEnvC scope cl G.objs.size X.env))
   (compPost (model X.prog X.w) X.A X.xe use QV (.ref s2.heap.objs.size) G.objs.size) { s2 with heap:=h1,toks:=t1 }:=by
  intro t1
  refine qT (fun n s'=>∃i ys H' ay k,Inv Xc [(D,{ cls := .type "list",data := .seq ay k })] (Jp Nc.length none++cR σ js) H' s'/\Vals ys ay.toList/\ys.length<=sizeLine/\tn i s'.heap/\(∀b∈fp,H' b=none)/\W i n ys H') ?_ m0
   ⟨0,[],H2,#[],n0,Au I2 c dr gS hle (Je _) D9 f2 fo old hns1 oD (fun _ z=>nomatch z),.nil,Um _,T.keep _ _ _ bN (fun b hb o e=>old b o e),fun b hb=>(f2 b hb).1,w0⟩
  intro n s3
  refine ae.go ?_
  rintro i ys H3 ay k I3 rv hz cN fr3 w3
  have xw:∀p∈[(D,({ cls := .type "list",data := .seq ay k }:Obj))],p.1=D:=fun p hp=>congrArg Prod.fst (Jg.mp hp)
  rcases turn i n ys H3 w3 with ⟨stop,qn⟩|⟨go,cF,step⟩
  ·refine aZ (T.done Xc rfl rfl rfl cP i _ s3 _ H3 fL I3 (fC xw fr3) cN stop) fun r s4 hz_ =>?_
   refine ae.el hz_ _ ?_
   clear hz_
   rintro hr I4
   subst hr
   show compPost _ _ _ _ _ _ _ _ _
   obtain⟨hDo,Ay,hDne,hDfs,_⟩:=I4.pin (D,_) (Ji _ Jq)
   have Ly:D≠G.objs.size:=D9
   refine ae.el (I4.loc) _ ?_
   rintro mC hmC _
   have Fw:H3 G.objs.size=none:=I4.free
   have OO:∀b o,s2.heap.get? b=some o->b≠D:=fun b o e=>Jw (Jj e)
   have u:Un (nq X.stack) fp H2 H3 s2.heap s4.heap:=I4.base
   have Cq:H2 D=none:=I2.bb.fresh (Je _)
   have u':Un (nq X.stack) fp H2 (upd H3 D (.lst ys)) s2.heap s4.heap:=
    ⟨u.keep,u.slot,fun b o e n hx=>by rw[ak (OO b o e)];exact u.free b o e n hx,u.there,
      fun b xs e=>by rw[ak (aq e Cq)];exact u.gb b xs e,fun b o xs e=>by rw[ak (aq e Cq)];exact u.fj b o xs e,
      fun b ps e=>by rw[ak (aq e Cq)];exact u.fR b ps e⟩
   have AM:fK X.prog X.w (upd H3 D (.lst ys)) s4.heap:=I4.bb.adopt Ay ⟨hz,ay.toList,k,rv,by simpa using hDo⟩
   have o8:∀b∈fp,(b∈X.ex∨X.s₀.heap.objs.size<=b)/\b≠X.env.locals/\(∀x c,X.env.cells.lookup x=some c->c≠b)/\∀p∈X.pn++pins,p.1≠b:=fun b hb=>
    ⟨(f2 b hb).2.2.2.1,(f2 b hb).2.1,(f2 b hb).2.2.2.2.1,(f2 b hb).2.2.2.2.2⟩
   have EJ:s4.os=s2.os:=I4.os
   have J4:Inv X pins σ (upd H3 D (.lst ys)) s4:=I2.tw (H':=upd H3 D (.lst ys)) EJ u' AM I4.bare o8
   refine behind G.objs.size D mC ys H3 s4 J4 hmC (I2.jF hle ?_) Ay qn
   rw[ak (Ne.symm Ly)]
   exact Fw
  ·refine aZ (T.item Xc rfl rfl rfl cP i _ s3 _ H3 fL I3 (fC xw fr3) cN go) fun r s4 hz_ =>?_
   refine ae.el hz_ _ ?_
   clear hz_
   rintro u hr h4
   subst hr
   show wpAny _ _ (letOwnedTupleGo tg (.ref it) u) _ _ _
   refine aZ h4 fun _ s5 hz_ =>?_
   refine ae.el hz_ _ ?_
   clear hz_
   rintro x H5 I5 r5 y5 cS fr5
   have Am:=I5.pinned (fC xw fr5) (T.obj _ _ cS)
   refine aZ (hg cl G.objs.size s2 H2 fp s5 _ H5 x u _ Am r5 (gk _ _ _ _ (step x H5 y5))) fun _ s6 hz_ =>?_
   refine ae.el hz_ _ ?_
   clear hz_
   rintro σ6 H6 I6 q6 kσ kl
   refine aZ (yr cl G.objs.size s2 H2 fp s6 σ6 H6 _ I6 q6) fun b s7 hz_ =>?_
   refine ae.el hz_ _ ?_
   clear hz_
   rintro H7 I7 q7
   have later:∀{σ':St} {H':Hp} {s':Shared},Inv Xc ([(D,({ cls := .type "list",data := .seq ay k }:Obj))]++eG fp s5.heap) σ' H' s'->tn (i+1) s'.heap/\∀b∈fp,H' b=none:=fun{σ' H' s'} Iz=>by
    refine⟨T.keep _ _ _ cS fun b hb o e=>(Iz.pin (b,o) (Ji _ (Ji _ (bX hb e)))).1,fun b hb =>?_⟩
    refine ae.el (T.obj _ _ cS b hb) _ ?_
    rintro o e d
    exact(Iz.pin (b,o) (Ji _ (Ji _ (bX hb e)))).2.1
   have back:∀{pl:List (Addr×Obj)} {H':Hp} {s':Shared},Inv Xc pl σ6 H' s'->Inv Xc pl (Jp Nc.length none++cR σ js) H' s':=fun{pl H' s'} Iz=>by
    refine Iz.weak (by rw[<-kl]) fun j v hj =>?_
    by_cases hn:j<Nc.length
    ·rw[J6 (by simpa using hn),U0] at hj
     split at hj<;>cases hj
    ·rw[kσ j (by omega)];exact hj
   cases b with
   | false=>
    rw[if_neg Ju] at q7 ⊢
    refine ae.el (q7) _ ?_
    rintro m' uQ w7
    obtain⟨l1,l2⟩:=later I7
    exact⟨m',uQ,i+1,ys,H7,ay,k,back I7.dN,rv,hz,l1,l2,w7⟩
   | true=>
    rw[if_pos rfl] at q7 ⊢
    refine aZ (Gx cl G.objs.size s2 H2 fp s7 σ6 H7 _ I7 q7) fun yv s8 hz_ =>?_
    refine ae.el hz_ _ ?_
    clear hz_
    rintro y H8 I8 r8 q8
    refine ae.el (q8) _ ?_
    rintro m' uQ w8
    obtain⟨hDo,Ay,hDne,hDfs,_⟩:=I8.pin (D,_) (Ji _ (Uc _ Jq))
    obtain⟨l1,l2⟩:=later I8
    have hits:ay.size=ys.length:=by
     have e1:=rv.length
     simp -iota only [Jv] at e1
     omega
    refine wpAny_list_append_plain (hsz:=by omega) ⟨k,hDo⟩ fun h9 hl9 hs9 =>?_
    obtain⟨k9,hD9⟩:=hl9
    have LU:∀p∈eG fp s5.heap,p.1≠D:=fun p hp=>by
     obtain⟨hb,_⟩:=l8 hp
     exact cE (lP _ hb) (Je _)
    have PH:Inv Xc (eG fp s5.heap) σ6 H8 s8:=I8.jZ fun p hp=>I8.pin p (Ji _ (Ji _ hp))
    have I9:Inv Xc (eG fp s5.heap) σ6 H8 { s8 with heap:=h9,toks:=s8.toks }:=PH.turned (it:=D) (fun b o hb e=>hs9.extBut b o hb e) Ay D9 (.inr (Je _))
     (fun x a e z=>by
      obtain⟨v,q⟩:=I2.cell x a (dr _ _ e)
      exact cE q.lt (Je _) z) (fun p hp=>LU p (by
       have hp:p∈([]:List (Addr×Obj))++eG fp s5.heap:=hp
       simpa using hp))
    obtain⟨jY,fr9⟩:tn (i+1) h9/\∀b∈fp,H8 b=none:=by
     refine⟨T.keep _ _ _ l1 fun b hb o e=>hs9.extBut b o ?_ e,l2⟩
     exact cE (lP _ hb) (Je _)
    refine⟨m',uQ,i+1,ys++[y],H8,ay.push yv,k9,back (I9.jZ fun p hp =>?_),?_,?_,jY,fr9,w8⟩
    ·cases Jg.mp hp
     exact⟨hD9,Ay,hDne,hDfs,fun _ z=>nomatch z⟩
    ·rw[U9]
     exact rv.append (.cons r8 .nil)
    ·rw[Jf,List.length_singleton];omega
 exact codeAny_compStart_list (loop _) (T.self _ 0 _ _ _ (T.keep _ _ _ bN fun b hb o e=>old b o e) (loop _))
theorem br {X:Cx}{elt tg iter:Expr}{ifs:List Expr}{scope:Scope}{pos:Pos}{Nc Fc:List Str}{js:List Nat}{wi:TI}{g:TG}{tc:TT}{te:TE}
  (cP:X.calm=true) (c:dQ X scope Nc Fc js) (hi:PI X tg iter wi) (gk:Gk Nc.length g)
  (hg:∀cl C s H fp,PG (fu X Nc Fc scope cl C s H fp) tg g) (yr:∀cl C s H fp,Bp (fu X Nc Fc scope cl C s H fp) ifs tc) (Gx:∀cl C s H fp,PE (fu X Nc Fc scope cl C s H fp) elt te)
  (hs:∀x,foldedSetIterable iter X.env x=pure x:=by intro _;rfl) :
  PE X (.ListComp elt [⟨tg,iter,ifs,0⟩] scope pos) (fY wi Nc.length js g tc te):=by
 intro pins s σ H Q I h
 rw[eval_ListComp]
 refine mU (use:=none) cP c hi hg yr Gx gk I h (fun C D m ys H2 s2 I2 hm hC hD q =>?_) hs
 refine⟨m,hm,fun h' hs' =>?_⟩
 refine⟨.ref D,_,I2.turned (it:=C) (t':=s2.toks) (fun b o hb e=>hs'.extBut b o hb e) hC.1 (hC.2.1) hC.2.2.2.1 hC.2.2.2.2.1 hC.2.2.2.2.2,rfl,q D hD⟩
theorem bV {X:Cx}{i:Nat}{y:Str}{elt tg iter:Expr}{ifs:List Expr}{scope:Scope}{pos pos' py:Pos}{Nc Fc:List Str}{js:List Nat}{wi:TI}{g:TG}{tc:TT}{te:TE}(hN:X.N.Nodup)(hy:X.N[i]? = some y)(hl:Loc X.env.scope y)
  (cP:X.calm=true) (c:dQ X scope Nc Fc js) (hi:PI X tg iter wi) (gk:Gk Nc.length g)
  (hg:∀cl C s H fp,PG (fu X Nc Fc scope cl C s H fp) tg g) (yr:∀cl C s H fp,Bp (fu X Nc Fc scope cl C s H fp) ifs tc) (Gx:∀cl C s H fp,PE (fu X Nc Fc scope cl C s H fp) elt te)
  (Lm:swapsWith (.ListComp elt [⟨tg,iter,ifs,0⟩] scope pos) (some (.Name y py)) pos'.line X.env=pure true:=by rfl)
  (hs:∀x,foldedSetIterable iter X.env x=pure x:=by intro _;rfl)
  (hf:X.fn y=true∨X.env.scope.names.lookup y=some .local:=by first|exact .inl rfl|exact .inr rfl|assumption) :
  PS X (.Assign [.Name y py] (.ListComp elt [⟨tg,iter,ifs,0⟩] scope pos) pos') (gC (fY wi Nc.length js g tc te) (fM i)):=by
 intro pins s σ H E I h
 rw[exec_Assign_Name_used _ _ _ _ Lm]
 refine wpAny_bind (wpAny_standAt (wpAny_bind ?_))
 show wpAny _ X.A (do let _ <-comprehension (.ListComp elt [⟨tg,iter,ifs,0⟩] scope pos) scope X.env _ (newList []) false (eval iter X.env) (some (assign (.Name y py) X.env))) _ _ s
 refine wpAny_bind (aZ (mU (use:=some (assign (.Name y py) X.env)) (QV:=fun _ s'=>SP X pins E .next s') cP c hi hg yr Gx gk I h (fun C D m ys H2 s2 I2 hm hC hD q =>?_) hs) fun _ s' hq=>wpAny_pure (wpAny_pure hq))
 show wpAny _ _ (assign (.Name y py) X.env (.ref D)) _ _ s2
 refine wpAny_assign_Name (i5 I2 hN hy hl (v := .ref D) rfl (fun s3 I3 ⟨a,y9,ha⟩=>?_) hf)
 have qO:C≠a:=by
  rcases ha with e|e
  ·rw[e];exact hC.2.1
  ·exact fun z=>hC.2.2.2.2.1 _ _ e z.symm
 refine⟨m,hm.at' fun o e=>y9.extBut _ o qO e,fun h' hs' =>?_⟩
 exact⟨_,_,I3.turned (it:=C) (t':=s3.toks) (fun b o hb e=>hs'.extBut b o hb e) hC.1 hC.2.1 hC.2.2.2.1 hC.2.2.2.2.1 hC.2.2.2.2.2,q D hD⟩
section
variable {X:Cx}{pins:List (Addr×Obj)}{σ:St}{H:Hp}{s:Shared}{p:Addr}{ys:List V}
theorem mj {A:Around}(hh:A.handled=none)(I:Inv X pins σ H s)(hq:aK X.K H p ys){R:Value->Shared->Prop}{E:Value->Shared->Prop}
  (h:∀(ay:List Value) (it:Addr) (s2:Shared),Vals ys ay->ay.length<=sizeLine ->
   Walks X.prog X.w A it [it,p] [it] ay.toArray.size (fun i v=>ay.toArray[i]? = some v) (fun i h=>h.IsListIter it p i/\h.IsList p ay.toArray)->(s2.heap.IsListIter it p 0/\s2.heap.IsList p ay.toArray)->(∀b∈[it,p],b<s2.heap.objs.size) ->
   (∀h' tk,(∀b o,b∉[it]->s2.heap.get? b=some o->h'.get? b=some o)->Inv X pins σ H { s2 with heap:=h',toks:=tk })->R (.ref it) s2) :
  wpAny (model X.prog X.w) A (pyIter (.ref p)) R E s:=by
 obtain⟨ay,rv,pl,hz⟩:=I.list hq
 have hl:=pl.isList
 have hp:p<s.heap.objs.size:=by obtain⟨o,e,_⟩:=hl;exact Jj e
 refine wpAny_pyIter_list hl ?_
 refine h ay s.heap.objs.size _ rv (by have:=rv.length;omega) (Walks.list hh _ p (Jw hp) ay.toArray) ⟨⟨_,Js _ rfl,rfl,rfl⟩,hl.push _⟩ (fun b hb =>?_) fun h' tk hk =>?_
 ·show b<(s.heap.push _).objs.size
  rw[Wl]
  rcases Uh.mp hb with rfl|hb
  ·exact Nat.lt_succ_self _
  ·rw[Jg.mp hb];exact Wf hp
 ·exact I.kept (t':=tk) fun b o e=>hk b o (fun z=>cE (Jj e) (Je _) (Jg.mp z)) (Jc _ e)
theorem gL {ys:List V}{ay:List Value}(r:Vals ys ay){i:Nat}{v:Value}(e:ay.toArray[i]? = some v):∃y,ys[i]? = some y/\RelV y v:=by
 have e':ay[i]? = some v:=by simpa using e
 have hi:i<ay.length:=(Jx.mp e').1
 have hl:=r.length
 obtain⟨u,h1,h2⟩:=r.get (i:=i) (x:=ys[i]'(by omega)) (by simp)
 rw[e'] at h1;cases h1
 exact⟨_,by simp,h2⟩
theorem range_all (bs:List Bool):(Uu bs.length).all (fun i=>bs.getD i false)=bs.all id:=by
 induction bs with
 | nil=>rfl
 | cons b r ih=>
  rw[J0,List.range_succ_eq_map,List.all_cons,List.all_map,List.all_cons,<-ih]
  rfl
theorem vW {A:Around}{bs:List Bool}{ay:List Value}(r:Vals (bs.map V.bl) ay):TruthOf X.prog X.w A (fun i v=>ay.toArray[i]? = some v) (fun i=>bs.getD i false):=by
 intro i v s Q E e hQ
 obtain⟨y,h1,h2⟩:=gL r e
 rw[Jk] at h1
 cases q:bs[i]? with
 | none=>rw[q] at h1;cases h1
 | some b=>
  rw[q] at h1;cases h1
  cases h2
  have:bs.getD i false=b:=by simp[List.getD,q]
  have hQ:Q (bs.getD i false) s:=hQ
  rw[this] at hQ
  exact wpAny_pure hQ
theorem pk (hc:X.calm=true):cj X (.builtin "all") (fun xs H Q=>∃(p:Addr) (bs:List Bool),xs=[.ref p]/\aK X.K H p (bs.map V.bl)/\Q (.bl (bs.all id)) H):=by
 intro pins s σ H xs us Q I r h
 obtain⟨p,bs,rfl,hq,q⟩:=h
 obtain⟨u,rfl,ru⟩:=vals1 r
 cases ru
 refine call_all_walk (mj (A:=X.A.in1) (I.ok.hd hc) I hq fun ay it s2 rv hz W st cF hI =>?_)
 refine⟨it,_,_,_,_,_,fun i=>bs.getD i false,rfl,W,st,vW rv,fun h' tk hk =>?_⟩
 have hl:ay.toArray.size=bs.length:=by have:=rv.length;simp at this ⊢;omega
 rw[hl,range_all]
 exact⟨.bl _,H,hI h' tk hk,rfl,q⟩
theorem int_at {ns:List Int}{ay:List Value}(r:Vals (ns.map V.int) ay){i:Nat}{v:Value}(e:ay.toArray[i]? = some v):∃n t,ns[i]? = some n/\v = .int n t:=by
 obtain⟨y,h1,h2⟩:=gL r e
 rw[Jk] at h1
 cases q:ns[i]? with
 | none=>rw[q] at h1;cases h1
 | some b=>
  rw[q] at h1;cases h1
  obtain⟨t,rfl⟩:=h2
  exact⟨b,t,rfl,rfl⟩
theorem qf (K:Jb)(hc:X.calm=true)(hK:X.K=K:=by rfl):cj X (.builtin "all") (fun xs H Q=>∃(p:Addr) (bs:List Bool),xs=[.ref p]/\aK K H p (bs.map V.bl)/\Q (.bl (bs.all id)) H):=by subst hK;exact pk hc
theorem gY:Bk X "str.startswith" (fun x vs H Q=>∃a b,x = .str a/\vs=[.str b]/\Q (.bl (Txt.startswith a b)) H):=by
 intro pins s σ H x vs v us Q I rx rv h
 obtain⟨a,b,rfl,rfl,q⟩:=h
 obtain⟨t,rfl⟩:=rx
 obtain⟨u,rfl,t',rfl⟩:=rv.one
 exact SC.startswith ⟨.bl _,H,I,rfl,q⟩
theorem uZ:Bk X "str.strip" (fun x vs H Q=>∃a b,x = .str a/\vs=[.str b]/\a.length<=sizeLine/\Q (.str (Txt.stripChars a b)) H):=by
 intro pins s σ H x vs v us Q I rx rv h
 obtain⟨a,b,rfl,rfl,hz,q⟩:=h
 obtain⟨t,rfl⟩:=rx
 obtain⟨u,rfl,t',rfl⟩:=rv.one
 exact SC.stripChars (fun t' k=>⟨.str _,H,I.tok _,⟨_,rfl⟩,q⟩) hz
theorem xk:∀{xs:List Str} {ay:List Value},Vals (xs.map V.str) ay->StrsAre ay xs:=by
 intro xs ay r
 induction xs generalizing ay with
 | nil=>cases r;exact StrsAre.nil
 | cons x xs ih=>
  cases r with
  | cons r1 r2=>
   obtain⟨t,rfl⟩:=r1
   exact StrsAre.cons x t (ih r2)
theorem Av:Bk X "str.join" (fun x vs H Q=>∃(sep:Str) (p:Addr) (xs:List Str),x = .str sep/\vs=[.ref p]/\aK X.K H p (xs.map V.str)/\(xs.map (·.length)).sum+xs.length*sep.length<=16777216/\Q (.str (Txt.join sep xs)) H):=by
 intro pins s σ H x vs v us Q I rx rv h
 obtain⟨sep,p,xs,rfl,rfl,hq,hz,q⟩:=h
 obtain⟨t,rfl⟩:=rx
 obtain⟨u,rfl,ru⟩:=rv.one
 cases ru
 obtain⟨ay,r',pl,_⟩:=I.list hq
 exact join_list pl.isList (xk r') hz fun t' k=>⟨.str _,H,I.tok _,⟨_,rfl⟩,q⟩
end
mutual
def Den (K:Jb)(H:Hp):PyData->V->Prop
 | .none,v=>v = .non
 | .bool b,v=>v = .bl b
 | .int i,v=>v = .int i
 | .str x,v=>v = .str x
 | .list ds,v=>cq fun a vs=>v = .ref a/\aK K H a vs/\aB K H ds vs
 | .tuple ds,v=>cq fun a vs=>v = .ref a/\fP K H a vs/\aB K H ds vs
 | .dict _,_=>False
def aB (K:Jb)(H:Hp):List PyData->List V->Prop
 | [],vs=>vs=[]
 | d::ds,vs=>cq fun v r=>vs=v::r/\Den K H d v/\aB K H ds r
end
theorem aj.jd {K:Jb}{H H':Hp}{a:Addr}{xs:List V}(e:aj H H')(h:fP K H a xs):fP K H' a xs:=by
 rcases h with (h|⟨o,h⟩)|h
 ·exact .inl (.inl (e _ _ h))
 ·exact .inl (.inr ⟨o,e _ _ h⟩)
 ·exact .inr h
mutual
theorem Den.same {K:Jb}{H H':Hp}(e:aj H H'):∀{d:PyData} {v:V},Den K H d v->Den K H' d v
 | .none,_,h=>by unfold Den at h ⊢;exact h
 | .bool _,_,h=>by unfold Den at h ⊢;exact h
 | .int _,_,h=>by unfold Den at h ⊢;exact h
 | .str _,_,h=>by unfold Den at h ⊢;exact h
 | .list ds,_,h=>by
  unfold Den at h ⊢
  obtain⟨a,vs,h1,h2,h3⟩:=h
  exact⟨a,vs,h1,e.seq h2,aB.same e h3⟩
 | .tuple ds,_,h=>by
  unfold Den at h ⊢
  obtain⟨a,vs,h1,h2,h3⟩:=h
  exact⟨a,vs,h1,e.jd h2,aB.same e h3⟩
 | .dict _,_,h=>by unfold Den at h;exact h.elim
theorem aB.same {K:Jb}{H H':Hp}(e:aj H H'):∀{ds:List PyData} {vs:List V},aB K H ds vs->aB K H' ds vs
 | [],_,h=>by unfold aB at h ⊢;exact h
 | d::ds,_,h=>by
  unfold aB at h ⊢
  obtain⟨v,r,h1,h2,h3⟩:=h
  exact⟨v,r,h1,Den.same e h2,aB.same e h3⟩
end
mutual
theorem Den.reads {X:Cx}{pins:List (Addr×Obj)}{σ:St}{H:Hp}{s:Shared}(I:Inv X pins σ H s):∀{d:PyData} {v:V} {u:Value},Den X.K H d v->RelV v u->∃as,Reads s.heap u d as
 | .none,_,_,h,r=>by unfold Den at h;subst h;cases r;exact⟨_,.none⟩
 | .bool _,_,_,h,r=>by unfold Den at h;subst h;cases r;exact⟨_,.bool _⟩
 | .int _,_,_,h,r=>by unfold Den at h;subst h;obtain⟨t,rfl⟩:=r;exact⟨_,.int _ _⟩
 | .str _,_,_,h,r=>by unfold Den at h;subst h;obtain⟨t,rfl⟩:=r;exact⟨_,.str _ _⟩
 | .list ds,_,_,h,r=>by
  unfold Den at h
  obtain⟨a,vs,rfl,h2,h3⟩:=h
  cases r
  obtain⟨ay,rv,⟨o,n,e1,e2,_,e4⟩,_⟩:=I.list h2
  obtain⟨as,q⟩:=aB.reads I h3 rv
  exact⟨_,.list e1 e2 e4 (by simpa using q)⟩
 | .tuple ds,_,_,h,r=>by
  unfold Den at h
  obtain⟨a,vs,rfl,h2,h3⟩:=h
  cases r
  obtain⟨ay,rv,⟨o,e1,e2,n,e4⟩,_⟩:=I.tuple h2
  obtain⟨as,q⟩:=aB.reads I h3 rv
  exact⟨_,.tuple e1 e2 e4 (by simpa using q)⟩
 | .dict _,_,_,h,_=>by unfold Den at h;exact h.elim
theorem aB.reads {X:Cx}{pins:List (Addr×Obj)}{σ:St}{H:Hp}{s:Shared}(I:Inv X pins σ H s):∀{ds:List PyData} {vs:List V} {us:List Value},aB X.K H ds vs->Vals vs us->∃as,ReadsAll s.heap us ds as
 | [],_,_,h,r=>by unfold aB at h;subst h;cases r;exact⟨_,.nil⟩
 | d::ds,_,_,h,r=>by
  unfold aB at h
  obtain⟨v,q,rfl,h2,h3⟩:=h
  cases r with
  | cons r1 r2=>
   obtain⟨as,q1⟩:=Den.reads I h2 r1
   obtain⟨bs,q2⟩:=aB.reads I h3 r2
   exact⟨_,.cons q1 q2⟩
end
section
variable {X:Cx}
open PySem.SeqAt in
theorem Dw (hu:X.A.units+64<cLine):e8 X (compareOp .Eq) (fun x y H Q=>∃d e,Den X.K H d x/\Den X.K H e y/\shaped d=true/\shaped e=true/\Q (.bl (PyData.eqv d e)) H):=by
 intro pins s σ H x y v u Q I rx ry h
 obtain⟨d,e,hd,he,sd,se,q⟩:=h
 obtain⟨as,r1⟩:=hd.reads I rx
 obtain⟨bs,r2⟩:=he.reads I ry
 exact eq_dataH r1 r2 sd se hu ⟨.bl _,H,I,rfl,q⟩
open PySem.SeqAt in
theorem Cu (hu:X.A.units+64<cLine):e8 X (compareOp .NotEq) (fun x y H Q=>∃d e,Den X.K H d x/\Den X.K H e y/\shaped d=true/\shaped e=true/\Q (.bl (!PyData.eqv d e)) H):=by
 intro pins s σ H x y v u Q I rx ry h
 obtain⟨d,e,hd,he,sd,se,q⟩:=h
 obtain⟨as,r1⟩:=hd.reads I rx
 obtain⟨bs,r2⟩:=he.reads I ry
 exact ne_dataH r1 r2 sd se hu ⟨.bl _,H,I,rfl,q⟩
theorem DQ:e8 X (compareOp .Is) (fun x y H Q=>∃a b,x = .bl a/\y = .bl b/\Q (.bl (decide (a=b))) H):=by
 intro pins s σ H x y v u Q I rx ry h
 obtain⟨a,b,rfl,rfl,q⟩:=h
 cases rx;cases ry
 refine wpAny_is_plain rfl (ba I q ?_)
 cases a<;>cases b<;>rfl
theorem vb:e8 X (compareOp .IsNot) (fun x y H Q=>∃a b,x = .bl a/\y = .bl b/\Q (.bl (!decide (a=b))) H):=by
 intro pins s σ H x y v u Q I rx ry h
 obtain⟨a,b,rfl,rfl,q⟩:=h
 cases rx;cases ry
 refine wpAny_isNot_plain rfl (ba I q ?_)
 cases a<;>cases b<;>rfl
theorem xx:cj X (.builtin "isinstance") (fun xs H Q=>∃x T t b,xs=[x,.ty T]/\iM X.K H x t/\Ys X.K t (.type T)=some b/\Q (.bl b) H):=by
 intro pins s σ H xs us Q I r h
 obtain⟨x,T,t,b,rfl,ty,e,q⟩:=h
 obtain⟨u,w',rfl,r1,r2⟩:=vals2 r
 cases r2
 exact uA I r1 ty e fun tk=>⟨.bl b,H,I.tok _,rfl,q⟩
theorem Cz:yS X (fun x lo hi H Q=>∃z,x = .str z/\z.length<=sizeLine/\Q (.str (Txt.slice z lo hi)) H):=by
 intro pins s σ H x v vl vu lo hi sl Q I rx hs pl pu q
 obtain⟨z,rfl,hz,q⟩:=q
 obtain⟨t,rfl⟩:=rx
 refine⟨"str",_,F.slot_str_getitem.lookup,typeIs_str _ _ _,?_⟩
 have fin:∀t' k,EP X pins σ Q (.str (Txt.slice z lo hi) t') { s with toks:=k }:=fun t' k=>⟨.str _,H,I.tok _,⟨_,rfl⟩,q⟩
 cases pl with
 | none=>
  cases pu with
  | none=>exact wpAny_getItem_str_slice (l:=none) (u:=none) (st:=none) hs rfl (post_val_or_str ⟨Jr (Txt.slice_le z _ _) hz,fin⟩)
  | int j uj=>exact wpAny_getItem_str_slice (l:=none) (u:=some (j,uj)) (st:=none) hs rfl (post_val_or_str ⟨Jr (Txt.slice_le z _ _) hz,fin⟩)
 | int i ui=>
  cases pu with
  | none=>exact wpAny_getItem_str_slice (l:=some (i,ui)) (u:=none) (st:=none) hs rfl (post_val_or_str ⟨Jr (Txt.slice_le z _ _) hz,fin⟩)
  | int j uj=>exact wpAny_getItem_str_slice (l:=some (i,ui)) (u:=some (j,uj)) (st:=none) hs rfl (post_val_or_str ⟨Jr (Txt.slice_le z _ _) hz,fin⟩)
end
section
variable {X:Cx}{pins:List (Addr×Obj)}{σ:St}{H:Hp}{s:Shared}{h':Heap}
theorem Inv.adopt {T:Addr}{o:HO}(I:Inv X pins σ H s)(hT:eO X pins H T)(hex:X.s₀.heap.objs.size<=T)(new:bF X.prog X.w (upd H T o) s.heap T o):Inv X pins σ (upd H T o) s:=
 ⟨I.ok,I.os,I.bare,⟨I.base.keep,I.base.slot,fun b ob e n hx=>by rw[ak (cE (Jj e) hex)];exact I.base.free b ob e n hx,I.base.there,
   fun b xs e=>by rw[ak (aq (I.base.gb b xs e) hT.1)];exact I.base.gb b xs e,fun b ob xs e=>by rw[ak (aq (I.base.fj b ob xs e) hT.1)];exact I.base.fj b ob xs e,
   fun b ps e=>by
    obtain⟨m,q⟩:=I.base.fR b ps e
    exact⟨m,by rw[ak (aq q hT.1)];exact q⟩⟩,
  I.loc,I.cell,by rw[ak (Ne.symm hT.2.1)];exact I.free,fun x c e=>by rw[ak (hT.2.2.2.2.1 x c e)];exact I.freeC x c e,
  fun p hp=>by
   refine ae.el (I.pin p hp) _ ?_
   rintro a b c d f
   exact⟨a,by rw[ak (hT.2.2.2.2.2 p hp)];exact b,c,d,f⟩,I.bb.adopt hT.1 new,I.len⟩
end
section
variable {X:Cx}
def EV:R2:=fun x y H Q=>(cq fun i j=>x = .int i/\y = .int j/\Q (.int (i+j)) H)∨(∃i j,x = .str i/\y = .str j/\i.length+j.length<=sizeLine/\Q (.str (i++j)) H)∨Ek x y H Q
theorem Hm:e8 X (binaryOp .Add) EV:=Dt.or (rA.or Dg)
def FD:R2:=fun x y H Q=>(cq fun i j=>x = .int i/\y = .int j/\si i j/\Q (.int (i*j)) H)∨G6 x y H Q
theorem Ep:e8 X (binaryOp .Mult) FD:=Dp.or C0
structure Fn (P:Program)(w:World)(K:Jb)(mg:Str->Option Value)(base:Heap)(k:Nat)(x:Str)(ps:List Str)(sp:Sp):Prop where
 ex:∃f fd,bW P w K mg base fI k f fd ps sp/\Binds K fd ps []/\PySem.W.keepIn K (.ref f)=true/\mg x=some (.ref f)
theorem Fn.mono {P:Program}{w:World}{K:Jb}{mg:Str->Option Value}{base:Heap}{j k:Nat}{x:Str}{ps:List Str}{sp:Sp}(F:Fn P w K mg base j x ps sp)(h:j<=k):Fn P w K mg base k x ps sp:=by
 refine ae.el (F.ex) _ ?_
 rintro f fd a b c d
 exact⟨f,fd,a.mono h,b,c,d⟩
theorem aP {k:Nat}{x:Str}{ps:List Str}{sp:Sp}{p pos:Pos}{e:Expr}{es:List Expr}{t:TA}(F:Fn X.prog X.w X.K X.mg X.base k x ps sp)(hr:dM k X.A)(hg:Gl X x)
  (ha:PA X (e::es) t) (A7:(x==("__debug__" : Str))=false:=by decide) (he:starEach (e::es) X.env=(false,eval e X.env)::starEach es X.env:=by rfl) (oY:(backTo pos (starEach es X.env)).any (·.1)=false:=by rfl) :
  PE X (.Call (.Name x p) (e::es) [] pos) (sT sp [] E0 t):=by
 refine ae.el (F.ex) _ ?_
 rintro f fd a b c d
 exact zT a hr hg d c b .nil GL ha A7 he oY
end
noncomputable def sP (pn sn:List (Str×NameKind))(N Fc:List Str)(js:List Nat):Bool:=
 sn.all (fun y=>y.2 != .cell)&&sn.all (fun y=>y.2 != .local||sn.lookup y.1==some .local)&&sn.all (fun y=>y.2 != .free||pn.lookup y.1==some .cell||pn.lookup y.1==some .free)&&js.length==Fc.length &&
 (Uu Fc.length).all fun k=>match Fc[k]?,js[k]? with
  | some x,some j=>sn.lookup x==some .free&&N[j]? == some x
  | _,_=>false
theorem aM {X:Cx}{scope:Scope}{Nc Fc:List Str}{js:List Nat}(hk:scope.kind = .function:=by rfl)(h:sP X.env.scope.names scope.names X.N Fc js=true:=by rfl):dQ X scope Nc Fc js:=by
 unfold sP at h
 simp -iota only [Uv,Yh,Bool.or_eq_true,bne_iff_ne,beq_iff_eq,ne_eq] at h
 obtain⟨⟨⟨⟨h1,h2⟩,h3⟩,h4⟩,h5⟩:=h
 refine⟨hk,h1,fun y hy hl=>(h2 y hy).resolve_left (fun z=>z hl),fun y hy hf =>?_,fun k x hx =>?_,h4⟩
 ·rcases h3 y hy with (z|z)|z
  ·exact absurd hf z
  ·exact .inl z
  ·exact .inr z
 ·have LR:k<Fc.length:=(Jx.mp hx).1
  have q:=h5 k (Yr.mpr LR)
  have hj:k<js.length:=by omega
  rw[hx,Jd hj] at q
  simp only[Uv,beq_iff_eq] at q
  exact⟨q.1,_,Jd hj,q.2⟩
section
variable {X:Cx}
theorem IA (hu:X.A.units+64<cLine):e8 X (compareOp .Eq) (fun x y H Q=>JW x y H Q∨(∃d e,Den X.K H d x/\Den X.K H e y/\SeqAt.shaped d=true/\SeqAt.shaped e=true/\Q (.bl (PyData.eqv d e)) H)):=GI.or (Dw hu)
theorem L0 (hu:X.A.units+64<cLine):e8 X (compareOp .NotEq) (fun x y H Q=>IC x y H Q∨(∃d e,Den X.K H d x/\Den X.K H e y/\SeqAt.shaped d=true/\SeqAt.shaped e=true/\Q (.bl (!PyData.eqv d e)) H)):=GK.or (Cu hu)
theorem Fq:e8 X (compareOp .Is) (fun x y H Q=>(y = .non/\Q (.bl (decide (x = .non))) H)∨(∃a b,x = .bl a/\y = .bl b/\Q (.bl (decide (a=b))) H)):=Cv.or DQ
theorem ou:e8 X (compareOp .IsNot) (fun x y H Q=>(y = .non/\Q (.bl (!decide (x = .non))) H)∨(∃a b,x = .bl a/\y = .bl b/\Q (.bl (!decide (a=b))) H)):=yV.or vb
theorem Hg:yS X (fun x lo hi H Q=>Co X.K x lo hi H Q∨(∃z,x = .str z/\z.length<=sizeLine/\Q (.str (Txt.slice z lo hi)) H)):=Ae.or Cz
structure Nm (mg:Str->Option Value):Prop where
 n_len:mg "len" = none
 n_range:mg "range" = none
 n_max:mg "max" = none
 n_min:mg "min" = none
 n_sum:mg "sum" = none
 n_all:mg "all" = none
 n_any:mg "any" = none
 n_list:mg "list" = none
 n_tuple:mg "tuple" = none
 n_int:mg "int" = none
 n_str:mg "str" = none
 n_bool:mg "bool" = none
 n_zip:mg "zip" = none
 n_enumerate:mg "enumerate" = none
 n_isinstance:mg "isinstance" = none
 n_divmod:mg "divmod" = none
end
theorem bo {J:It}{n:Nat}{js:List Nat}{g:TG}{tc:TT}{te:TE}{σ:St}{H1:Hp}{fin:List V->Hp->Prop}(N:Nat)(Pv:Nat->List V->Hp->Prop)(h0:Pv 0 [] H1)
  (go:∀i ys H (Nx:List V->Hp->Prop),i<N->Pv i ys H->(∀ys' H',Pv (i+1) ys' H'->Nx ys' H')->J.go i H/\ys.length<sizeLine /\
   ∀x H',J.yld i H x H'->g x (Jp n none++cR σ js) H' fun σ2 H2=>tc σ2 H2 fun b H3=>if b=true then te σ2 H3 fun y H4=>Nx (ys++[y]) H4 else Nx ys H3)
  (stop:∀ys H,Pv N ys H->J.stop N H/\fin ys H):tG J n js g tc te σ H1 fin:=by
 refine⟨fun i m ys H=>m=N-i/\i<=N/\Pv i ys H,⟨N,by simp,Um _,h0⟩,?_⟩
 intro i m ys H
 refine ae.go ?_
 rintro rfl hi p
 by_cases cF:i<N
 ·exact .inr (go i ys H (fun ys' H'=>∃m',m'<N-i/\(m'=N-(i+1)/\i+1<=N/\Pv (i+1) ys' H')) cF p fun ys' H' q=>⟨_,by omega,rfl,cF,q⟩)
 ·have e:i=N:=by omega
  subst e
  exact .inl (stop ys H p)
section
variable {X:Cx}(K:Jb)
theorem mF (hK:X.K=K:=by rfl):yQ X (GP K):=by subst hK;exact C9
theorem Np (hK:X.K=K:=by rfl):yS X (fun x lo hi H Q=>Co K x lo hi H Q∨(∃z,x = .str z/\z.length<=sizeLine/\Q (.str (Txt.slice z lo hi)) H)):=by subst hK;exact Hg
theorem dy (hK:X.K=K:=by rfl):cj X (.builtin "len") (fun xs H Q=>∃x n,xs=[x]/\FO K x H n/\Q (.int n) H):=by subst hK;exact wq
theorem BL (hK:X.K=K:=by rfl):Bk X "str.join" (fun x vs H Q=>∃(sep:Str) (p:Addr) (xs:List Str),x = .str sep/\vs=[.ref p]/\aK K H p (xs.map V.str)/\(xs.map (·.length)).sum+xs.length*sep.length<=16777216/\Q (.str (Txt.join sep xs)) H):=by subst hK;exact Av
theorem iA {tg l:Expr}{tl:TE}(hl:PE X l tl)(hK:X.K=K:=by rfl):PI X tg l (xA K tl):=by subst hK;exact Ax hl
theorem tupK {pos:Pos}{es:List Expr}{k:Nat}{t:uz}(n:Nat)(hc:X.calm=true)(h:Fj X es t)(hn:(assignEach es X.env).length=n:=by rfl)(iy:(assignEach es X.env).findIdx? (·.1)=none:=by rfl)(hK:X.K=K:=by rfl):PG X (.Tuple es k pos) (DS K n t):=by subst hK;exact DK hc h hn iy
theorem vK {o e:Expr}{es:List Expr}{to:TE}{t:TA}{name:Str}{apos dJ:Pos}{T id:String}{r:V->List V->Hp->VK->Prop}(pa:PlainAttrs T)(slot:Slot T name id)(DH:typeOf (.builtin id)=pure (.type "method_descriptor"))(hm:Bk X id r)(ho:PE X o to)(ha:PA X (e::es) t)
  (kK:attributeBase o name X.env (eval o X.env)=eval o X.env:=by rfl)
  (C5:((backTo dJ (starEach (e::es) X.env)).all (fun x => !x.1)&&(backToKw dJ (keywordEach [] X.env)).all (fun x=>x.1.isSome)
   && decide ((e::es).length+([]:List Keyword).length+(if ([]:List Keyword).isEmpty then 0 else 1)<30))=true:=by rfl)
  (lM:(apos.endLine==dJ.line)=true:=by rfl) (hs:starEach (e::es) X.env=(false,eval e X.env)::starEach es X.env:=by rfl) (rq:(backTo dJ (starEach es X.env)).any (·.1)=false:=by rfl) (hK:X.K=K:=by rfl) :
  PE X (.Call (.Attribute o name apos) (e::es) [] dJ) (KP K T r to t):=by subst hK;exact GD pa slot DH hm ho ha kK C5 lM hs rq
theorem M1 {o:Expr}{to:TE}{name:Str}{apos dJ:Pos}{T id:String}{r:V->List V->Hp->VK->Prop}(pa:PlainAttrs T)(slot:Slot T name id)(DH:typeOf (.builtin id)=pure (.type "method_descriptor"))(hm:Bk X id r)(ho:PE X o to)
  (kK:attributeBase o name X.env (eval o X.env)=eval o X.env:=by rfl) (lM:(apos.endLine==dJ.line)=true:=by rfl) (hK:X.K=K:=by rfl):PE X (.Call (.Attribute o name apos) [] [] dJ) (Hv K T r to):=by subst hK;exact DD pa slot DH hm ho kK lM
theorem ur (hu:X.A.units+64<cLine)(hK:X.K=K:=by rfl):e8 X (compareOp .Eq) (fun x y H Q=>JW x y H Q∨(∃d e,Den K H d x/\Den K H e y/\SeqAt.shaped d=true/\SeqAt.shaped e=true/\Q (.bl (PyData.eqv d e)) H)):=by subst hK;exact IA hu
theorem tE (hu:X.A.units+64<cLine)(hK:X.K=K:=by rfl):e8 X (compareOp .NotEq) (fun x y H Q=>IC x y H Q∨(∃d e,Den K H d x/\Den K H e y/\SeqAt.shaped d=true/\SeqAt.shaped e=true/\Q (.bl (!PyData.eqv d e)) H)):=by subst hK;exact L0 hu
end
abbrev Keeps (g h:Heap)(c:Addr->Prop):Prop:=∀b o,¬c b->g.get? b=some o->h.get? b=some o
structure wy (prog:Program)(w:World)(A:Around)(it S:Addr)(T:String)(fp:Addr->Prop)(n:Nat)(P:Nat->Value->Heap->Prop)(R:Value->Value->Prop)(St:Nat->Heap->Prop):Prop where
 sfp:¬fp S
 ne:it≠S
 ty:∀i h,St i h->∃o,h.get? it=some o/\o.cls = .type T
 self:∀(s:Shared) (Q:Value->Shared->Prop) (E:Value->Shared->Prop),St 0 s.heap->Q (.ref it) s->wpAny (model prog w) A (pyIter (.ref it)) Q E s
 item:∀i (s:Shared) (Q:Option Value->Shared->Prop) (E:Value->Shared->Prop),i<n->St i s.heap->S<s.heap.objs.size ->
  (∀v h' tk,Keeps s.heap h' fp->St (i+1) h'->P i v h'->(∀j u,P j u s.heap->R u v)->Q (some v) { s with heap:=h',toks:=tk })->wpAny (model prog w) A (pyNext (.ref it)) Q E s
 stop:∀(s:Shared) (Q:Option Value->Shared->Prop) (E:Value->Shared->Prop),St n s.heap->S<s.heap.objs.size->(∀h' tk,Keeps s.heap h' fp->Q none { s with heap:=h',toks:=tk })->wpAny (model prog w) A (pyNext (.ref it)) Q E s
 keepS:∀i h h',St i h->Keeps h h' (· = S)->St i h'
 keepP:∀j v h h',P j v h->Keeps h h' (fun b=>fp b∨b=S)->P j v h'
 nolen:typeLookup (.type T) "__len__" = pure none
 nohint:typeLookup (.type T) "__length_hint__" = pure none
 nl:(Value.type T==Value.type "list")=false
 nt:(Value.type T==Value.type "tuple")=false
structure pP (h:Heap)(S:Addr)(i:Nat)(P:Nat->Value->Heap->Prop)(R:Value->Value->Prop)(acc:Array Value)(c:Nat):Prop where
 ob:h.get? S=some { cls := .type "list",data := .seq acc c }
 sz:acc.size=i
 pw:acc.toList.Pairwise R
 all:∀(j:Nat) v,acc[j]? = some v->P j v h
abbrev qS (prog:Program)(w:World)(A:Around)(R:Result->Shared->Prop):Fin->Shared->Prop:=fun fin s'=>match fin with
 | .done f=>R (.ok f) s'
 | .again c'=>c'.quiet=true/\codeAny (model prog w) A c' R s'
section
variable {prog:Program}{w:World}{A:Around}{it S:Addr}{T:String}{fp:Addr->Prop}{n:Nat}{P:Nat->Value->Heap->Prop}{R:Value->Value->Prop}{St:Nat->Heap->Prop}
abbrev jT (g:Heap)(S:Addr)(fp:Addr->Prop)(n:Nat)(P:Nat->Value->Heap->Prop)(R:Value->Value->Prop)(s:Shared)(Z:Shared->Prop):Prop:=
 ∀h' tk acc c,Keeps g h' (fun b=>fp b∨b=S)->pP h' S n P R acc c->Z { s with heap:=h',toks:=tk }
theorem mN (Fd:wy prog w A.in1 it S T fp n P R St)(hn:n<=sizeLine){s:Shared}{Z:Result->Shared->Prop}{res:Value}{g:Heap}(fin:jT g S fp n P R s (Z (.ok (.ret res)))):
  ∀(k i:Nat) (h:Heap) (tk:Nat) (acc:Array Value) (c:Nat),i+k=n->St i h->pP h S i P R acc c->Keeps g h (fun b=>fp b∨b=S) ->
   codeAny (model prog w) A (.builtin "list.extend.loop" ⟨[.ref S,.ref it,res],[]⟩) Z { s with heap:=h,toks:=tk }
 | 0,i,h,tk,acc,c,hk,iy,G,kp=>by
  have e:i=n:=by omega
  subst e
  refine codeAny_builtin PySem.F.entry_extend_loop ?_
  rw[Around.under_plainId PySem.F.plain_extend_loop _]
  refine wpAny_bind (Fd.stop { s with heap:=h,toks:=tk } _ _ iy (Jj G.ob) fun h' tk' k'=>wpAny_pure ?_)
  exact fin h' tk' acc c (fun b o nb q=>k' b o (fun z=>nb (.inl z)) (kp b o nb q)) ⟨k' _ _ Fd.sfp G.ob,G.sz,G.pw,fun j v e=>Fd.keepP _ _ _ _ (G.all j v e) fun b o nb q=>k' b o (fun z=>nb (.inl z)) q⟩
 | k+1,i,h,tk,acc,c,hk,iy,G,kp=>by
  refine codeAny_builtin PySem.F.entry_extend_loop ?_
  rw[Around.under_plainId PySem.F.plain_extend_loop _]
  refine wpAny_bind (Fd.item i { s with heap:=h,toks:=tk } _ _ (by omega) iy (Jj G.ob) fun v h' tk' k' aE pv rv =>?_)
  have CT:=k' _ _ Fd.sfp G.ob
  have other:Keeps h' (h'.update S (Obj.mapSeq (·.push v))) (· = S):=fun b o nb q=>(Uk _ _ (Ne.symm nb)).trans q
  have k2:Keeps h (h'.update S (Obj.mapSeq (·.push v))) (fun b=>fp b∨b=S):=fun b o nb q=>other b o (fun z=>nb (.inr z)) (k' b o (fun z=>nb (.inl z)) q)
  have sz:=G.sz
  refine wpAny_bind (wpAny_updateSeq CT rfl (wpAny_pure ⟨plainId_quiet PySem.F.plain_extend_loop _,?_⟩) (by rw[sz];omega) (by show(acc.push v).size<=sizeLine+1;rw[Wc,sz];omega))
  refine mN Fd hn fin k (i+1) _ tk' (acc.push v) _ (by omega) (Fd.keepS _ _ _ aE other) ⟨Ux _ CT rfl,by rw[Wc,sz],?_,fun j u e =>?_⟩ (fun b o nb q=>k2 b o nb (kp b o nb q))
  ·rw[U9]
   refine J8.mpr ⟨G.pw,Y6 _ _,fun a ha b hb =>?_⟩
   obtain⟨j,hj⟩:=U3.mp ha
   rw[Jg.mp hb]
   exact rv j a (G.all j a (by simpa using hj))
  ·by_cases hj:j<i
   ·rw[Array.getElem?_push_lt (by omega)] at e
    exact Fd.keepP _ _ _ _ (G.all j u (by rw[J7 (by omega)];exact e)) k2
   ·have w4:j=i:=by
     have:=(Array.getElem?_eq_some_iff.mp e).1
     rw[Wc] at this
     omega
    subst w4
    have e':(acc.push v)[acc.size]? = some u:=by rw[sz];exact e
    rw[Array.getElem?_push_size] at e'
    cases e'
    exact Fd.keepP _ _ _ _ pv fun b o nb q=>other b o (fun z=>nb (.inr z)) q
theorem qy (Fd:wy prog w A.in1 it S T fp n P R St)(hn:n<=sizeLine){s:Shared}{Z:Result->Shared->Prop}{res:Value}{c₀:Nat}(iy:St 0 s.heap)(hS:s.heap.get? S=some { cls := .type "list",data := .seq #[] c₀ })
  (fin:jT s.heap S fp n P R s (Z (.ok (.ret res)))) :
  wpAny (model prog w) A.in1 (Builtin.List.listExtendWith (.ref S) (.ref it) res) (qS prog w A Z) (fun e s'=>Z (.error e) s') s:=by
 have go:∀(h:Heap) (c tk:Nat),Keeps s.heap h (· = S)->h.get? S=some { cls := .type "list",data := .seq #[] c } -> codeAny (model prog w) A (.builtin "list.extend.loop" ⟨[.ref S,.ref it,res],[]⟩) Z { s with heap:=h,toks:=tk }:=
  fun h c tk k o=>mN Fd hn fin n 0 h tk #[] c (by omega) (Fd.keepS _ _ _ iy k) ⟨o,rfl,.nil,fun j v e=>by simp at e⟩ fun b o nb q=>k b o (fun z=>nb (.inr z)) q
 obtain⟨oi,hoi,hci⟩:=Fd.ty 0 _ iy
 have hT:s.TypeIs (.ref it) T:=⟨oi,hoi,hci⟩
 have yC:Builtin.List.listSameRef (.ref S) (.ref it)=false:=by simp[Builtin.List.listSameRef,Ne.symm Fd.ne]
 unfold Builtin.List.listExtendWith
 refine wpAny_bind (wpAny_typeOf hT ?_)
 simp only[yC,Fd.nl,Fd.nt,Bool.or_false,J9,if_false]
 refine wpAny_bind (Fd.self s _ _ iy ?_)
 have hint:∀(Q:Bool->Shared->Prop),Q true s->wpAny (model prog w) A.in1 (Builtin.List.listLengthHint (.ref it)) Q (fun e s'=>Z (.error e) s') s:=fun Q q=>by
  unfold Builtin.List.listLengthHint
  refine wpAny_bind (wpAny_specialOf hT Fd.nolen ?_)
  refine wpAny_ite_split (fun z=>absurd z (by decide)) fun _=>wpAny_ite_split (fun z=>absurd z (by decide)) fun _ =>?_
  exact wpAny_bind (wpAny_specialOf hT Fd.nohint (wpAny_pure q))
 refine wpAny_bind (wpAny_holding (hint _ ?_))
 refine wpAny_ite_split (fun _ =>?_) fun _=>wpAny_pure ⟨plainId_quiet PySem.F.plain_extend_loop _,go _ c₀ _ (fun _ _ _ q=>q) hS⟩
 refine wpAny_bind (wpAny_rule (wpAny_bind ?_))
 have o1:=Ux (Obj.mapSeq (·.push Value.none)) hS rfl
 have o2:=Ux (Obj.mapSeq (·.pop)) o1 rfl
 refine wpAny_bind (wpAny_updateSeq hS rfl (wpAny_updateSeq (hz:=by seq_fits) o1 rfl (wpAny_pure ⟨plainId_quiet PySem.F.plain_extend_loop _,go _ _ _ (fun b o nb q =>?_) o2⟩)))
 exact(Uk _ _ (Ne.symm nb)).trans ((Uk _ _ (Ne.symm nb)).trans q)
theorem vd (Fd:wy prog w A.in1 it S T fp n P R St)(hn:n<=sizeLine){s:Shared}{Z:Result->Shared->Prop}(iy:St 0 s.heap)(hS:s.heap.get? S=some { cls := .type "list",data := .seq #[] })
  (fin:jT s.heap S fp n P R s (Z (.ok (.ret .none)))) :
  wpAny (model prog w) A.in1 (Builtin.«list.__init__» ⟨[.ref S,.ref it],[]⟩) (qS prog w A Z) (fun e s'=>Z (.error e) s') s:=by
 refine wpAny_bind ?_
 unfold Builtin.List.listItems
 refine wpAny_bind (wpAny_seqItems hS rfl (wpAny_pure ?_))
 have o1:=Ux (Obj.mapSeq (fun _=>(#[]:Array Value))) hS rfl
 have k1:Keeps s.heap (s.heap.update S (Obj.mapSeq (fun _=>(#[]:Array Value)))) (· = S):=fun b o nb q=>(Uk _ _ (Ne.symm nb)).trans q
 refine wpAny_bind (wpAny_updateSeq hS rfl (wpAny_bind (wpAny_letGo ?_)))
 refine qy (s:={ s with heap:=_ }) Fd hn (Fd.keepS _ _ _ iy k1) o1 fun h' tk acc c k G =>?_
 exact fin h' tk acc c (fun b o nb q=>k b o nb (k1 b o (fun z=>nb (.inr z)) q)) G
theorem u6 {s:Shared}{Q:Value->Shared->Prop}{E:Value->Shared->Prop}(Fd:wy prog w A.in1.in1 it s.heap.objs.size T fp n P R St)(hn:n<=sizeLine)(iy:∀o,St 0 (s.heap.push o))
  (fin:∀h' tk acc c,Keeps s.heap h' fp->pP h' s.heap.objs.size n P R acc c->Q (.ref s.heap.objs.size) { s with heap:=h',toks:=tk }) :
  wpAny (model prog w) A (call (.type "list") [.ref it]) Q E s:=by
 refine callType_codes (Q₁:=fun obj s₁=>obj = .ref s.heap.objs.size/\s₁={ s with heap:=s.heap.push { cls := .type "list",data := .seq #[] } }) F.called_list (F.typeCall_list_1 _) F.entry_list_init
  (code_list_new _ ⟨rfl,rfl⟩) fun obj s₁ h₁ =>?_
 obtain⟨rfl,rfl⟩:=h₁
 have hS:(s.heap.push { cls := .type "list",data := .seq #[] }).get? s.heap.objs.size=some { cls := .type "list",data := .seq #[] }:=Js _ rfl
 refine⟨⟨_,hS,rfl⟩,F.args_list_init_2 _ _,vd (s:={ s with heap:=_ }) (A:=A.in1) Fd hn (iy _) hS fun h' tk acc c k G=>⟨rfl,fin h' tk acc c (fun b o nb q =>?_) G⟩⟩
 exact k b o (fun z=>z.elim nb fun z=>cE (Jj q) (Je _) z) (Jc _ q)
end
abbrev ja (h:Heap)(z TI TO a:Addr)(f:Bool):Prop:=
 h.get? z=some { cls := .type "zip",dict:=none,data := .fields #[rawInt a,.bool f,.bool false,.ref TI,.ref TO],slots := #[] }
section
variable {prog:Program}{w:World}{A:Around}{E:Value->Shared->Prop}{s:Shared}{z TI TO i1 i2 l1 l2 a:Addr}{f:Bool}{oa:Obj}
theorem pC {Q:Bool->Shared->Prop}(hz:ja s.heap z TI TO a f)(ha:s.heap.get? a=some oa)
  (q:∀h,ja h z TI TO a true->Y0 z s.heap h->Q false { s with heap:=h }):wpAny (model prog w) A (Builtin.SmallTypes.ownedTupleIsFree (.ref z)) Q E s:=by
 unfold Builtin.SmallTypes.ownedTupleIsFree
 refine wpAny_bind (wpAny_field hz rfl (x:=rawInt a) rfl ?_)
 show wpAny _ _ (loadIfAlive ((a:Int).toNat) >>= _) _ _ _
 rw[U8]
 refine wpAny_bind (PySem.W.kdx_alive ha ?_)
 simp -iota only [Option.isNone_some,J9,if_false]
 refine wpAny_bind (wpAny_field hz rfl (x := .bool f) rfl ?_)
 cases f
 ·exact wpAny_bind (wpAny_setField_rec hz (by simp) fun h e k=>wpAny_pure (q h e k))
 ·exact wpAny_pure (q s.heap hz (Y0.refl _ _))
theorem oz {k:Nat}{xs ys:Array Value}{x y:Value}{Q:Option Value->Shared->Prop}(D:ZipApart z TI TO i1 i2 l1 l2)(hz:ja s.heap z TI TO a f)(ha:s.heap.get? a=some oa)(G9:IsPair s.heap TI (.ref i1) (.ref i2))
  (h1:s.heap.IsListIter i1 l1 k) (h2:s.heap.IsListIter i2 l2 k) (Iq:s.heap.IsList l1 xs) (CK:s.heap.IsList l2 ys) (hx:xs[k]? = some x) (hy:ys[k]? = some y)
  (q:∀h',ja h' z TI TO a true->h'.IsListIter i1 l1 (k+1)->h'.IsListIter i2 l2 (k+1)->IsPair h' s.heap.objs.size x y->Keeps s.heap h' (fun b=>b=z∨b=i1∨b=i2)->Q (some (.ref s.heap.objs.size)) { s with heap:=h' }) :
  wpAny (model prog w) A (pyNext (.ref z)) Q E s:=by
 have hT:s.TypeIs (.ref z) "zip":=⟨_,hz,rfl⟩
 unfold pyNext
 refine wpAny_bind (wpAny_attempt (wpAny_callSpecial?_slot (name:=Str.ofString "__next__") hT F.slot_zip_next (wpAny_call_entry F.slot_zip_next hT F.entry_zip_next ?_ (F.args_zip_next_1 _))))
 change wpAny _ _ (Bind.bind (field (.ref z) 2) _) _ _ _
 refine wpAny_bind (wpAny_field hz rfl (x := .bool false) rfl ?_)
 change wpAny _ _ (Bind.bind (field (.ref z) 3) _) _ _ _
 refine wpAny_bind (wpAny_field hz rfl (x := .ref TI) rfl (wpAny_bind (wpAny_seqItems G9 rfl ?_)))
 change wpAny _ _ (Bind.bind (Builtin.SmallTypes.ownedTupleIsFree (.ref z)) _) _ _ _
 refine wpAny_bind (pC hz ha fun h0 z0 k0 =>?_)
 simp -iota only [J9,if_false,<-Array.forIn_toList,List.forIn_cons,List.forIn_nil]
 refine wpAny_bind (wpAny_bind (wpAny_bind (wpAny_holding (wpAny_bind (wpAny_nextOf_list_item (h1.extBut k0.extBut D.i1z) (Iq.extBut k0.extBut D.l1z) hx fun h4 e4 k4=>wpAny_pure (wpAny_pure ?_))))))
 refine wpAny_bind (wpAny_bind (wpAny_holding (wpAny_bind (wpAny_nextOf_list_item ((h2.extBut k0.extBut D.i2z).extBut k4.extBut D.i12.symm) ((CK.extBut k0.extBut D.l2z).extBut k4.extBut D.l2i1) hy fun h5 e5 k5=>wpAny_pure (wpAny_pure (wpAny_pure ?_))))))
 refine wpAny_bind (wpAny_newTuple (hsz:=by show 2<=sizeLine;decide) (wpAny_pure ⟨_,rfl,wpAny_pure ?_⟩))
 have hsz:h5.objs.size=s.heap.objs.size:=by rw[k5.1,k4.1,k0.1]
 show Q (some (.ref h5.objs.size)) _
 rw[hsz]
 refine q (h5.push { cls := .type "tuple",data := .seq #[x,y] }) (Jc _ (k5.extBut _ _ D.i2z.symm (k4.extBut _ _ D.i1z.symm z0))) ((e4.extBut k5.extBut D.i12).at fun o e=>Jc _ e) (e5.at fun o e=>Jc _ e) (by rw[<-hsz];exact Js _ rfl) fun b o nb e =>?_
 exact Jc _ (k5.extBut _ _ (fun z=>nb (.inr (.inr z))) (k4.extBut _ _ (fun z=>nb (.inr (.inl z))) (k0.extBut _ _ (fun z=>nb (.inl z)) e)))
theorem m5 {k:Nat}{xs ys:Array Value}{Q:Option Value->Shared->Prop}(hh:A.handled=none)(D:ZipApart z TI TO i1 i2 l1 l2)(hz:ja s.heap z TI TO a f)(ha:s.heap.get? a=some oa)(G9:IsPair s.heap TI (.ref i1) (.ref i2))
  (h1:s.heap.IsListIter i1 l1 k) (h2:s.heap.IsListIter i2 l2 k) (Iq:s.heap.IsList l1 xs) (CK:s.heap.IsList l2 ys) (he:xs[k]? = none∨ys[k]? = none)
  (q:∀h',Keeps s.heap h' (fun b=>b=z∨b=i1∨b=i2)->Q none { s with heap:=h' }) :
  wpAny (model prog w) A (pyNext (.ref z)) Q E s:=by
 have hT:s.TypeIs (.ref z) "zip":=⟨_,hz,rfl⟩
 unfold pyNext
 refine wpAny_bind (wpAny_attempt (wpAny_callSpecial?_slot (name:=Str.ofString "__next__") hT F.slot_zip_next (wpAny_call_entry F.slot_zip_next hT F.entry_zip_next ?_ (F.args_zip_next_1 _))))
 change wpAny _ _ (Bind.bind (field (.ref z) 2) _) _ _ _
 refine wpAny_bind (wpAny_field hz rfl (x := .bool false) rfl ?_)
 change wpAny _ _ (Bind.bind (field (.ref z) 3) _) _ _ _
 refine wpAny_bind (wpAny_field hz rfl (x := .ref TI) rfl (wpAny_bind (wpAny_seqItems G9 rfl ?_)))
 change wpAny _ _ (Bind.bind (Builtin.SmallTypes.ownedTupleIsFree (.ref z)) _) _ _ _
 refine wpAny_bind (pC hz ha fun h0 z0 k0 =>?_)
 simp -iota only [J9,if_false,<-Array.forIn_toList,List.forIn_cons,List.forIn_nil]
 refine wpAny_bind (wpAny_bind (wpAny_bind (wpAny_holding ?_)))
 cases hx:xs[k]? with
 | none=>
  refine wpAny_bind (wpAny_nextOf_list_end hh (h1.extBut k0.extBut D.i1z) (Iq.extBut k0.extBut D.l1z) hx fun h4 e k4 oe =>?_)
  refine ae.el (oe) _ ?_
  rintro o ho hc
  exact wpAny_bind (wpAny_isInstance (T := "StopIteration") (b:=true) ⟨o,ho,hc⟩ isSubtype_stop (wpAny_pure (q h4 fun b o nb x=>k4 _ _ (fun z=>nb (.inr (.inl z))) (k0.extBut _ _ (fun z=>nb (.inl z)) x))))
 | some x=>
  have hy:ys[k]? = none:=he.resolve_left (by rw[hx];exact fun z=>nomatch z)
  refine wpAny_bind (wpAny_nextOf_list_item (h1.extBut k0.extBut D.i1z) (Iq.extBut k0.extBut D.l1z) hx fun h4 e4 k4=>wpAny_pure (wpAny_pure ?_))
  refine wpAny_bind (wpAny_bind (wpAny_holding (wpAny_bind (wpAny_nextOf_list_end hh ((h2.extBut k0.extBut D.i2z).extBut k4.extBut D.i12.symm) ((CK.extBut k0.extBut D.l2z).extBut k4.extBut D.l2i1) hy fun h5 e k5 oe =>?_))))
  refine ae.el (oe) _ ?_
  rintro o ho hc
  exact wpAny_bind (wpAny_isInstance (T := "StopIteration") (b:=true) ⟨o,ho,hc⟩ isSubtype_stop (wpAny_pure (q h5 fun b o nb x=>k5 _ _ (fun z=>nb (.inr (.inr z))) (k4.extBut _ _ (fun z=>nb (.inr (.inl z))) (k0.extBut _ _ (fun z=>nb (.inl z)) x)))))
end
structure pK (z TI TO i1 i2 l1 l2 S:Addr)(xs ys:Array Value)(i:Nat)(h:Heap):Prop where
 ti:IsPair h TI (.ref i1) (.ref i2)
 to:∃a b,IsPair h TO a b
 it1:h.IsListIter i1 l1 i
 it2:h.IsListIter i2 l2 i
 a1:h.IsList l1 xs
 a2:h.IsList l2 ys
 zp:IsZip h z TI TO .none∨0<i/\∃a f oa,ja h z TI TO a f/\h.get? a=some oa/\S<a
abbrev xX (z TO i1 i2:Addr)(b:Addr):Prop:=b=z∨b=TO∨b=i1∨b=i2
abbrev tj (S:Addr)(xs ys:Array Value)(j:Nat)(v:Value)(h:Heap):Prop:=gO fun a x y=>v = .ref a/\S<a/\xs[j]? = some x/\ys[j]? = some y/\IsPair h a x y
abbrev yk (u v:Value):Prop:=∃a b:Addr,u = .ref a/\v = .ref b/\a<b
theorem wO {prog:Program}{w:World}{A:Around}{z TI TO i1 i2 l1 l2 S:Addr}{xs ys:Array Value}(hh:A.handled=none)(D:ZipApart z TI TO i1 i2 l1 l2)(b1:z<S)(b2:TI<S)(b3:TO<S)(b4:i1<S)(b5:i2<S)(b6:l1<S)(b7:l2<S):
  wy prog w A z S "zip" (xX z TO i1 i2) (min xs.size ys.size) (tj S xs ys) yk (pK z TI TO i1 i2 l1 l2 S xs ys) where
 sfp:=fun q=>by
  rcases q with q|q|q|q<;>(rw[q] at b1 b3 b4 b5;first|exact absurd b1 (U7 _)|exact absurd b3 (U7 _)|exact absurd b4 (U7 _)|exact absurd b5 (U7 _))
 ne:=Jw b1
 ty:=fun i h st=>by
  rcases st.zp with q|⟨_,a,f,oa,q,_⟩
  ·exact⟨_,q,rfl⟩
  ·exact⟨_,q,rfl⟩
 self:=fun s Q E st q=>by
  rcases st.zp with r|⟨r,_⟩
  ·exact wpAny_pyIter_zip r q
  ·exact absurd r (U7 _)
 item:=fun i s Q E hi st hS q=>by
  obtain⟨ti,⟨a,b,to⟩,it1,it2,a1,a2,zp⟩:=st
  have hx:xs[i]? = some (xs[i]'(by omega)):=J7 (by omega)
  have hy:ys[i]? = some (ys[i]'(by omega)):=J7 (by omega)
  have old:∀j u,tj S xs ys j u s.heap->yk u (.ref s.heap.objs.size):=fun j u hz_=>ae.el hz_ _ fun a x y e _ _ _ p=>⟨a,_,e,rfl,Jj p⟩
  rcases zp with r|⟨Cn,c,f,oc,r,oc',hc⟩
  ·refine wpAny_pyNext_zip_item D r ti to it1 it2 a1 a2 hx hy fun h' r1 r2 r3 r4 r5 r6 r7 =>?_
   have kp:Keeps s.heap h' (xX z TO i1 i2):=fun b o nb e=>r7 b o (fun z=>nb (.inl z)) (fun z=>nb (.inr (.inl z))) (fun z=>nb (.inr (.inr (.inl z)))) (fun z=>nb (.inr (.inr (.inr z)))) e
   refine q _ h' s.toks kp ⟨r7 _ _ D.TIz D.TITO D.TIi1 D.TIi2 ti,⟨_,_,r2⟩,r3,r4,a1.at fun o e=>r7 _ _ D.l1z D.l1TO D.l1i1 D.l1i2 e,a2.at fun o e=>r7 _ _ D.l2z D.l2TO D.l2i1 D.l2i2 e,.inr ⟨Nat.succ_pos _,_,_,_,r1,r5,hS⟩⟩ ⟨_,_,_,rfl,hS,hx,hy,r5⟩ old
  ·have ne:∀{b:Addr},b<S->c≠b:=fun hb=>Ym (Nat.lt_trans hb hc)
   refine oz D r oc' ti it1 it2 a1 a2 hx hy fun h' r1 r2 r3 r4 r5 =>?_
   have kp:Keeps s.heap h' (xX z TO i1 i2):=fun b o nb e=>r5 b o (fun z=>z.elim (fun z=>nb (.inl z)) fun z=>nb (.inr (.inr z))) e
   refine q _ h' s.toks kp ⟨r5 _ _ (fun z=>z.elim D.TIz fun z=>z.elim D.TIi1 D.TIi2) ti,⟨_,_,r5 _ _ (fun z=>z.elim D.TOz fun z=>z.elim D.TOi1 D.TOi2) to⟩,r2,r3,a1.at fun o e=>r5 _ _ (fun z=>z.elim D.l1z fun z=>z.elim D.l1i1 D.l1i2) e,a2.at fun o e=>r5 _ _ (fun z=>z.elim D.l2z fun z=>z.elim D.l2i1 D.l2i2) e,
    .inr ⟨Nat.succ_pos _,_,_,_,r1,r5 _ _ (fun z=>z.elim (ne b1) fun z=>z.elim (ne b4) (ne b5)) oc',hc⟩⟩ ⟨_,_,_,rfl,hS,hx,hy,r4⟩ old
 stop:=fun s Q E st hS q=>by
  obtain⟨ti,⟨a,b,to⟩,it1,it2,a1,a2,zp⟩:=st
  have he:xs[min xs.size ys.size]? = none∨ys[min xs.size ys.size]? = none:=by
   rcases Nat.le_total xs.size ys.size with h|h
   ·exact .inl (Yb (by omega))
   ·exact .inr (Yb (by omega))
  rcases zp with r|⟨Cn,c,f,oc,r,oc',hc⟩
  ·exact wpAny_pyNext_zip_end hh D r ti to it1 it2 a1 a2 he fun h' k=>q h' s.toks fun b o nb e=>k b o (fun z=>nb (.inl z)) (fun z=>nb (.inr (.inl z))) (fun z=>nb (.inr (.inr (.inl z)))) (fun z=>nb (.inr (.inr (.inr z)))) e
  ·exact m5 hh D r oc' ti it1 it2 a1 a2 he fun h' k=>q h' s.toks fun b o nb e=>k b o (fun z=>z.elim (fun z=>nb (.inl z)) fun z=>nb (.inr (.inr z))) e
 keepS:=fun i h h' st k=>by
  obtain⟨ti,⟨a,b,to⟩,it1,it2,a1,a2,zp⟩:=st
  refine⟨k _ _ (Jw b2) ti,⟨a,b,k _ _ (Jw b3) to⟩,it1.at fun o e=>k _ o (Jw b4) e,it2.at fun o e=>k _ o (Jw b5) e,a1.at fun o e=>k _ o (Jw b6) e,a2.at fun o e=>k _ o (Jw b7) e,?_⟩
  rcases zp with r|⟨Cn,c,f,oc,r,oc',hc⟩
  ·exact .inl (k _ _ (Jw b1) r)
  ·exact .inr ⟨Cn,c,f,oc,k _ _ (Jw b1) r,k _ _ (Ym hc) oc',hc⟩
 keepP:=fun j v h h' ⟨a,x,y,e,ha,h1,h2,p⟩ k=>by
  have ne:∀{b:Addr},b<S->a≠b:=fun hb=>Ym (Nat.lt_trans hb ha)
  exact⟨a,x,y,e,ha,h1,h2,k _ _ (fun z=>z.elim (fun z=>z.elim (ne b1) fun z=>z.elim (ne b3) fun z=>z.elim (ne b4) (ne b5)) (Ym ha)) p⟩
 nolen:=by rw[typeLookup_type,builtinLookup_eq_fast];kernel_rfl
 nohint:=by rw[typeLookup_type,builtinLookup_eq_fast];kernel_rfl
 nl:=by decide
 nt:=by decide
theorem Inv.pR {X:Cx}{pins:List (Addr×Obj)}{σ:St}:∀(as:List Addr) (ps:List (List V)) {H:Hp} {s:Shared},Inv X pins σ H s->as.Nodup->as.length=ps.length->(∀a∈as,eO X pins H a/\X.s₀.heap.objs.size<=a) ->
  (∀(j:Nat) a p,as[j]? = some a->ps[j]? = some p->p.length<=sizeLine/\∃ay:List Value,Vals p ay/\IsTup s.heap a ay.toArray) ->
  ∃H',Inv X pins σ H' s/\aj H H'/\(∀b,b∉as->H' b=H b)/\∀(j:Nat) a p,as[j]? = some a->ps[j]? = some p->H' a=some (.tup p)
 | [],ps,H,s,I,_,_,_,_=>⟨H,I,aj.refl H,fun _ _=>rfl,fun j a p h _=>by simp at h⟩
 | a::as,[],H,s,I,_,hl,_,_=>by simp at hl
 | a::as,p::ps,H,s,I,nd,hl,hf,ho=>by
  obtain⟨na,Bq⟩:=U1.mp nd
  obtain⟨fa,sa⟩:=hf a Jq
  obtain⟨hz,ay,rv,ht⟩:=ho 0 a p rfl rfl
  have I1:=I.adopt (T:=a) (o := .tup p) fa sa ⟨hz,ay,rv,ht⟩
  obtain⟨H',I',sm,same,all⟩:=Inv.pR as ps I1 Bq (by simpa using hl) (fun b hb=>by
   obtain⟨fb,sb⟩:=hf b (Jn _ hb)
   exact⟨⟨by rw[ak (fun(e:b=a)=>na (by rw[<-e];exact hb))];exact fb.1,fb.2⟩,sb⟩) (fun j b q h1 h2=>ho (j+1) b q h1 h2)
  refine⟨H',I',fun b o e=>sm b o (by rw[ak (aq e fa.1)];exact e),fun b hb =>?_,fun j b q h1 h2 =>?_⟩
  ·rw[same b fun z=>hb (Jn _ z),ak (fun(z:b=a)=>hb (by rw[z];exact Jq))]
  ·cases j with
   | zero=>
    cases h1;cases h2
    rw[same a na];exact ax
   | succ j=>exact all j b q h1 h2
theorem uq:∀{l:List Value},(∀v∈l,∃a:Addr,v = .ref a)->∃as:List Addr,l=as.map Value.ref
 | [],_=>⟨[],rfl⟩
 | v::r,h=>by
  obtain⟨a,rfl⟩:=h v Jq
  obtain⟨as,rfl⟩:=uq fun u hu=>h u (Jn _ hu)
  exact⟨a::as,rfl⟩
section
variable {X:Cx}
def Qc (K:Jb)(ta:TA):TE:=fun σ H Q=>ta σ H fun vs H1=>pW fun l1 l2 xs ys=>vs=[.ref l1,.ref l2]/\aK K H1 l1 xs/\aK K H1 l2 ys /\
 ∀H' p (as:List Addr),aj H1 H'->H1 p=none->H' p=some (.lst (as.map V.ref))->as.length=min xs.length ys.length ->
  (∀(j:Nat) a x y,as[j]? = some a->xs[j]? = some x->ys[j]? = some y->H1 a=none/\H' a=some (.tup [x,y]))->Q (.ref p) H'
theorem mE {xs ys:List V}(j:Nat)(x y:V)(hx:xs[j]? = some x)(hy:ys[j]? = some y):((xs.zip ys).map fun q=>[q.1,q.2])[j]? = some [x,y]:=by
 rw[Jk,(List.getElem?_zip_eq_some (z:=(x,y))).mpr ⟨hx,hy⟩]
 rfl
theorem rY {a b:Expr}{ta:TA}{p p2 pos zG:Pos}(hc:X.calm=true)(O8:Gl X "list")(Mt:X.mg "list" = none)(Pc:Gl X "zip")(QO:X.mg "zip" = none)(ha:PA X [a,b] ta)
  (C7:bootBuiltins "list" = some (.type "list"):=by first|rfl|decide) (QX:bootBuiltins "zip" = some (.type "zip"):=by first|rfl|decide)
  (HJ:starEach [.Call (.Name "zip" p2) [a,b] [] zG] X.env=[(false,eval (.Call (.Name "zip" p2) [a,b] [] zG) X.env)]:=by rfl)
  (hs:starEach [a,b] X.env=[(false,eval a X.env),(false,eval b X.env)]:=by rfl) (zR:starEach [b] X.env=[(false,eval b X.env)]:=by rfl) :
  PE X (.Call (.Name "list" p) [.Call (.Name "zip" p2) [a,b] [] zG] [] pos) (Qc X.K ta):=by
 intro pins s σ H Q I h
 refine wpAny_Call_Name_kw (gr I O8 Mt C7 ?_)
 refine PyProof.Rows.callWith_type1 ?_ HJ rfl
 rw[HJ]
 show wpAny _ _ (spliced ((false,eval (.Call (.Name "zip" p2) [a,b] [] zG) X.env)::[])) _ _ _
 refine Calls.spliced_cons ?_
 refine Call_ (gr I Pc QO QX (PyProof.Rows.callWith_type1 (aZ (ha s σ H _ I h) fun us s1 hz_=>ae.el hz_ _ fun vs H1 I1 r1 q1 =>?_) (by rw[hs,zR]) (by rw[zR];rfl)))
 obtain⟨l1,l2,xs,ys,e,q1,q2,q⟩:=q1
 subst e
 obtain⟨u,w',rfl,r1,r2⟩:=vals2 r1
 cases r1;cases r2
 obtain⟨its1,rv1,p1,hz1⟩:=I1.list q1
 refine ae.el (I1.list q2) _ ?_
 rintro its2 rv2 p2 hz2
 have e1:=rv1.length
 have e2:=rv2.length
 have a1:l1<s1.heap.objs.size:=by obtain⟨_,e,_⟩:=p1.isList;exact Jj e
 have a2:l2<s1.heap.objs.size:=by obtain⟨_,e,_⟩:=p2.isList;exact Jj e
 refine call_zip_2 p1.isList p2.isList fun h' hz G9 hTO hi1 vP hsz hk =>?_
 refine Calls.spliced_nil ?_
 have Fs:s1.heap.objs.size<=h'.objs.size:=by rw[hsz];exact Uw _ _
 have kO:∀n,n<5->s1.heap.objs.size+n<h'.objs.size:=fun n hn=>by rw[hsz];exact Nat.add_lt_add_left hn _
 have zs:∀o,pK (s1.heap.objs.size+4) (s1.heap.objs.size+2) (s1.heap.objs.size+3) s1.heap.objs.size (s1.heap.objs.size+1) l1 l2 h'.objs.size its1.toArray its2.toArray 0 (h'.push o):=fun o=>
  ⟨Jc _ G9,⟨_,_,Jc _ hTO⟩,hi1.at fun o e=>Jc _ e,vP.at fun o e=>Jc _ e,(p1.isList.at fun o e=>hk _ o e).push _,(p2.isList.at fun o e=>hk _ o e).push _,.inl (Jc _ hz)⟩
 refine u6 (s:={ s1 with heap:=h' }) (wO (I.ok.hd hc) (zipApart_new a1 a2) (kO 4 (by decide)) (kO 2 (by decide)) (kO 3 (by decide)) (kO 0 (by decide)) (kO 1 (by decide)) (Jt a1 Fs) (Jt a2 Fs)) (by simp;omega) zs fun h2 tk acc c hk2 G =>?_
 obtain⟨hS2,hsz2,hpw,gQ⟩:=G
 obtain⟨as,oD⟩:=uq (l:=acc.toList) fun v hv=>by
  obtain⟨j,hj⟩:=U3.mp hv
  obtain⟨a,_,_,e,_⟩:=gQ j v (by simpa using hj)
  exact⟨a,e⟩
 have wZ:∀(j:Nat) a,as[j]? = some a->∃x y,h'.objs.size<a/\its1.toArray[j]? = some x/\its2.toArray[j]? = some y/\IsPair h2 a x y:=fun j a h=>by
  obtain⟨a',x,y,e,g⟩:=gQ j (.ref a) (by
   have:acc.toList[j]? = some (.ref a):=by rw[oD,Jk,h];rfl
   simpa using this)
  cases e
  exact⟨x,y,g⟩
 have above:∀a∈as,h'.objs.size<a:=fun a ha=>by
  obtain⟨j,hj⟩:=U3.mp ha
  obtain⟨_,_,g,_⟩:=wZ j a hj
  exact g
 have old:∀b o,s1.heap.get? b=some o->h2.get? b=some o:=fun b o e=>by
  have hb:=Jj e
  have gt:∀n,b≠s1.heap.objs.size+n:=fun n=>Jw (Jt hb (Uw _ _))
  exact hk2 b o (fun z=>z.elim (gt 4) fun z=>z.elim (gt 3) fun z=>z.elim (gt 0) (gt 1)) (hk b o e)
 have I2:Inv X pins σ H1 { s1 with heap:=h2,toks:=tk }:=I1.kept old
 have C4:∀a∈as,s1.heap.objs.size<=a:=fun a ha=>Uy (Ub Fs (above a ha))
 have nd:as.Nodup:=by
  rw[oD,Wg] at hpw
  exact hpw.imp fun hz_=>ae.el hz_ _ fun a b e1 e2 h=>by cases e1;cases e2;exact Jw h
 have jF:∀a,s1.heap.objs.size<=a->eO X pins H1 a/\X.s₀.heap.objs.size<=a:=fun a ha=>⟨I1.jF ha (I1.bb.fresh ha),Jr I1.sz ha⟩
 have vS:as.length=min xs.length ys.length:=by
  have z:acc.toList.length=as.length:=by rw[oD,Ja]
  simp at z hsz2
  omega
 obtain⟨H',I',sm,same,all⟩:=I2.pR as ((xs.zip ys).map fun q=>[q.1,q.2]) nd (by rw[Ja,List.length_zip];omega) (fun a ha=>jF a (C4 a ha)) (fun j a pp h1 h2'=>by
  refine ae.el (wZ j a h1) _ ?_
  rintro x y _ g1 g2 g3
  refine ae.el (gL rv1 g1) _ ?_
  rintro vx gx rx
  refine ae.el (gL rv2 g2) _ ?_
  rintro vy gy ry
  have z:=mE j vx vy gx gy
  rw[z] at h2';cases h2'
  exact⟨by show 2<=sizeLine;decide,[x,y],.cons rx (.cons ry .nil),⟨_,g3,rfl,_,rfl⟩⟩)
 have IH:h'.objs.size∉as:=fun hm=>U7 _ (above _ hm)
 have Ed:H1 h'.objs.size=none:=I1.bb.fresh Fs
 obtain⟨fS,sS⟩:=jF h'.objs.size Fs
 have OT:eO X pins H' h'.objs.size:=⟨by rw[same _ IH];exact Ed,fS.2⟩
 have I3:=I'.adopt (T:=h'.objs.size) (o := .lst (as.map V.ref)) OT sS ⟨by rw[Ja];omega,acc.toList,c,by
  rw[oD]
  clear hS2 oD all same I' sm C4 nd vS IH above wZ
  induction as with
  | nil=>exact .nil
  | cons a r ih=>exact .cons rfl ih,by simpa using hS2⟩
 refine⟨.ref h'.objs.size,_,I3,rfl,q _ _ as (fun b o e =>?_) Ed ax vS fun j a x y h1 h2' h3'=>⟨(jF a (C4 a (Wd h1))).1.1,?_⟩⟩
 ·rw[ak (aq e Ed)];exact sm b o e
 ·rw[ak (fun(z:a=h'.objs.size)=>IH (by rw[<-z];exact Wd h1))]
  exact all j a [x,y] h1 (mE j x y h2' h3')
end
structure dX (H:Hp)(p:Addr)(o:HO)(H':Hp):Prop where
 nn:H p=none
 eq:H'=upd H p o
theorem dX.at {H H':Hp}{p:Addr}{o:HO}(n:dX H p o H'):H' p=some o:=by rw[n.eq];exact ax
theorem dX.ne {H H':Hp}{p a:Addr}{o:HO}(n:dX H p o H')(h:a≠p):H' a=H a:=by rw[n.eq];exact ak h
theorem dX.same {H H':Hp}{p:Addr}{o:HO}(n:dX H p o H'):aj H H':=fun a u e=>by rw[n.ne (aq e n.nn)];exact e
theorem dX.back {H H':Hp}{p a:Addr}{o:HO}(n:dX H p o H')(h:H' a=none):H a=none:=by
 cases e:H a with
 | none=>rfl
 | some u=>rw[n.same a u e] at h;cases h
structure oG (H:Hp)(p:Addr)(o:HO)(H':Hp):Prop where
 eq:H'=upd H p o
theorem oG.at {H H':Hp}{p:Addr}{o:HO}(n:oG H p o H'):H' p=some o:=by rw[n.eq];exact ax
theorem oG.ne {H H':Hp}{p a:Addr}{o:HO}(n:oG H p o H')(h:a≠p):H' a=H a:=by rw[n.eq];exact ak h
theorem jQ {H:Hp}{o:HO}{F:Addr->Hp->Prop}:(∀p,H p=none->F p (upd H p o)) = ∀p H',dX H p o H'->F p H':=
 propext ⟨fun h p H' n=>by rw[n.eq];exact h p n.nn,fun h p hp=>h p _ ⟨hp,rfl⟩⟩
theorem Ag {H:Hp}{p:Addr}{o:HO}{F:Hp->Prop}:F (upd H p o) = ∀H',oG H p o H'->F H':=
 propext ⟨fun h H' n=>by rw[n.eq];exact h,fun h=>h _ ⟨rfl⟩⟩
section
variable {X:Cx}{pos:Pos}{es:List Expr}{t:TA}
def Bt (t:TA):TE:=fun σ H Q=>t σ H fun xs H1=>xs.length<=sizeLine/\∀p H',dX H1 p (.tup xs) H'->Q (.ref p) H'
def Bd (t:TA):TE:=fun σ H Q=>t σ H fun xs H1=>xs.length<=sizeLine/\∀p H',dX H1 p (.lst xs) H'->Q (.ref p) H'
theorem fT {x1}(h:PA X es t):PE X (.Tuple es x1 pos) (Bt t):=by
 have e:Bt t=Hr t:=by
  funext σ H Q
  show t σ H _=t σ H _
  congr 1;funext xs H1
  exact congrArg (_ /\ ·) (jQ (F:=fun p H'=>Q (.ref p) H')).symm
 rw[e];exact CC h
theorem eP (h:PA X es t):PE X (.List es pos) (Bd t):=by
 have e:Bd t=Gw t:=by
  funext σ H Q
  show t σ H _=t σ H _
  congr 1;funext xs H1
  exact congrArg (_ /\ ·) (jQ (F:=fun p H'=>Q (.ref p) H')).symm
 rw[e];exact CB h
def su (pJ:List (TE×TE)):TE:=fun σ H Q=>∀p H0,dX H p (.dK []) H0->kW pJ σ H0 fun ps H2=>H2 p=some (.dK [])/\∃kvs:List (Key×V),ps=kvs.map (fun kv=>(kV kv.1,kv.2))/\kvs.length<=15/\∀H3,oG H2 p (.dK (bA [] kvs)) H3->Q (.ref p) H3
theorem FV {keys:List (Option Expr)}{values:List Expr}{pJ:List (TE×TE)}(h:GA X pos keys values pJ)(gQ:keys.all (·.isSome)=true)(hl:keys.length=values.length)(h0:keys≠[])
  (LL:keys.length<=15):PE X (.Dict keys values pos) (su pJ):=by
 have e:su pJ=yj pJ:=by
  funext σ H Q
  unfold su yj
  rw[jQ (F:=fun p H0=>kW pJ σ H0 fun ps H2=>H2 p=some (.dK [])/\∃kvs:List (Key×V),ps=kvs.map (fun kv=>(kV kv.1,kv.2))/\kvs.length<=15/\Q (.ref p) (upd H2 p (.dK (bA [] kvs))))]
  simp only[<-Ag (F:=fun H3=>Q (.ref _) H3)]
 rw[e];exact zu h gQ hl h0 LL
end
section
variable {X:Cx}(K:Jb)
def Ds (K:Jb):V->Option Int->Option Int->Hp->VK->Prop:=fun x lo hi H Q=>(cq fun a xs=>x = .ref a/\aK K H a xs/\∀p H',dX H p (.lst (oP xs lo hi)) H'->Q (.ref p) H')∨(∃z,x = .str z/\z.length<=sizeLine/\Q (.str (Txt.slice z lo hi)) H)
theorem oU (hK:X.K=K:=by rfl):yS X (Ds K):=by
 subst hK
 intro pins s σ H x v vl vu lo hi sl Q I rx hs pl pu q
 refine Hg s σ H x v vl vu lo hi sl Q I rx hs pl pu ?_
 rcases q with ⟨a,xs,e,h,q⟩|q
 ·exact .inl ⟨a,xs,e,h,fun p hp=>q p _ ⟨hp,rfl⟩⟩
 ·exact .inr q
theorem Bw (hK:X.K=K:=by rfl):cj X (.type "list") (fun xs H Q=>∃p ys,xs=[.ref p]/\(aK K H p ys∨fP K H p ys)/\∀l H',dX H l (.lst ys) H'->Q (.ref l) H'):=by
 subst hK
 intro pins s σ H xs us Q I r h
 refine ae.el (h) _ ?_
 rintro p ys e h q
 exact nY s σ H xs us Q I r ⟨p,ys,e,h,fun l hl=>q l _ ⟨hl,rfl⟩⟩
theorem DF (hK:X.K=K:=by rfl):cj X (.type "tuple") (fun xs H Q=>∃p ys,xs=[.ref p]/\((aK K H p ys/\∀l H',dX H l (.tup ys) H'->Q (.ref l) H')∨(fP K H p ys/\Q (.ref p) H))):=by
 subst hK
 intro pins s σ H xs us Q I r h
 refine ae.el (h) _ ?_
 rintro p ys e h
 refine lX s σ H xs us Q I r ⟨p,ys,e,?_⟩
 rcases h with ⟨h,q⟩|h
 ·exact .inl ⟨h,fun l hl=>q l _ ⟨hl,rfl⟩⟩
 ·exact .inr h
end
section
variable {X:Cx}
def wM:R2:=fun x y H Q=>(cq fun i j=>x = .int i/\y = .int j/\Q (.int (i+j)) H)∨(∃i j,x = .str i/\y = .str j/\i.length+j.length<=sizeLine/\Q (.str (i++j)) H) ∨
 pW fun l b xs zs=>x = .ref l/\y = .ref b/\H l=some (.lst xs)/\H b=some (.lst zs)/\xs.length+zs.length<=sizeLine/\∀p H',dX H p (.lst (xs++zs)) H'->Q (.ref p) H'
theorem b0:e8 X (binaryOp .Add) wM:=by
 intro pins s σ H x y v u Q I rx ry h
 refine Hm s σ H x y v u Q I rx ry ?_
 rcases h with h|h|⟨l,b,xs,zs,e1,e2,h1,h2,h3,q⟩
 ·exact .inl h
 ·exact .inr (.inl h)
 ·exact .inr (.inr ⟨l,b,xs,zs,e1,e2,h1,h2,h3,fun p hp=>q p _ ⟨hp,rfl⟩⟩)
def Bl:R2:=fun x y H Q=>(cq fun i j=>x = .int i/\y = .int j/\si i j/\Q (.int (i*j)) H) ∨
 gO fun l k xs=>x = .ref l/\y = .int k/\H l=some (.lst xs) /\ -(2^63)<=k/\k<2^63/\xs.length*k.toNat<=sizeLine/\∀p H',dX H p (.lst (Jp k.toNat xs).flatten) H'->Q (.ref p) H'
theorem lV:e8 X (binaryOp .Mult) Bl:=by
 intro pins s σ H x y v u Q I rx ry h
 refine Ep s σ H x y v u Q I rx ry ?_
 rcases h with h|⟨l,k,xs,e1,e2,h1,h2,h3,h4,q⟩
 ·exact .inl h
 ·exact .inr ⟨l,k,xs,e1,e2,h1,h2,h3,h4,fun p hp=>q p _ ⟨hp,rfl⟩⟩
theorem A5:cj X (.builtin "divmod") (fun xs H Q=>∃i j,xs=[.int i,.int j]/\Dr i j/\∀p H',dX H p (.tup [.int (i / j),.int (i%j)]) H'->Q (.ref p) H'):=by
 intro pins s σ H xs us Q I r h
 refine ae.el (h) _ ?_
 rintro i j e c q
 exact qp s σ H xs us Q I r ⟨i,j,e,c,fun p hp=>q p _ ⟨hp,rfl⟩⟩
theorem ud:yH X "list.append" (fun x vs H Q=>∃l xs y,x = .ref l/\vs=[y]/\H l=some (.lst xs)/\xs.length<sizeLine/\∀H',oG H l (.lst (xs++[y])) H'->Q .non H'):=by
 intro pins s σ H x xs v us Q I rx rv h
 refine ae.el (h) _ ?_
 rintro l ys y e1 e2 h1 h2 q
 exact uI s σ H x xs v us Q I rx rv ⟨l,ys,y,e1,e2,h1,h2,q _ ⟨rfl⟩⟩
theorem sX:yH X "list.extend" (fun x vs H Q=>∃l b xs zs,x = .ref l/\vs=[.ref b]/\H l=some (.lst xs)/\H b=some (.lst zs)/\xs.length+zs.length<=sizeLine/\∀H',oG H l (.lst (xs++zs)) H'->Q .non H'):=by
 intro pins s σ H x xs v us Q I rx rv h
 refine ae.el (h) _ ?_
 rintro l b ys zs e1 e2 h1 h2 h3 q
 exact uU s σ H x xs v us Q I rx rv ⟨l,b,ys,zs,e1,e2,h1,h2,h3,q _ ⟨rfl⟩⟩
theorem M4:yH X "list.pop" (fun x vs H Q=>∃l xs y,x = .ref l/\vs=[]/\H l=some (.lst xs)/\xs[xs.length-1]? = some y/\∀H',oG H l (.lst xs.dropLast) H'->Q y H'):=by
 intro pins s σ H x xs v us Q I rx rv h
 refine ae.el (h) _ ?_
 rintro l ys y e1 e2 h1 h2 q
 exact B8 s σ H x xs v us Q I rx rv ⟨l,ys,y,e1,e2,h1,h2,q _ ⟨rfl⟩⟩
theorem De:yH X "list.pop" (fun x vs H Q=>∃l xs i y,x = .ref l/\vs=[.int i]/\H l=some (.lst xs)/\0<=i/\i<2^63/\xs[i.toNat]? = some y/\∀H',oG H l (.lst (xs.eraseIdx i.toNat)) H'->Q y H'):=by
 intro pins s σ H x xs v us Q I rx rv h
 refine ae.el (h) _ ?_
 rintro l ys i y e1 e2 h1 h2 h3 h4 q
 refine vX s σ H x xs v us Q I rx rv ⟨l,ys,i,i.toNat,y,e1,e2,h1,by omega,h3,?_,h4,q _ ⟨rfl⟩⟩
 have hl:=(Jx.mp h4).1
 have q:rg ys ((i.toNat:Nat):Int)=some y:=m9 h4
 have ei:((i.toNat:Nat):Int)=i:=by omega +splitMinMax
 rw[ei] at q
 obtain⟨j,hj,IV,_⟩:=jN q
 have:xT ys.length i=some i.toNat:=by unfold xT;rw[if_pos h2,if_pos (by omega)]
 exact(nX this).1
end
theorem gu {J:It}{n:Nat}{js:List Nat}{g:TG}{tc:TT}{te:TE}{σ:St}{H1:Hp}{Q:V->Hp->Prop}(N:Nat)(Pv:Nat->List V->Hp->Prop)(h0:Pv 0 [] H1)
  (go:∀i ys H (Nx:List V->Hp->Prop),i<N->Pv i ys H->(∀ys' H',Pv (i+1) ys' H'->Nx ys' H')->J.go i H/\ys.length<sizeLine /\
   ∀x H',J.yld i H x H'->g x (Jp n none++cR σ js) H' fun σ2 H2=>tc σ2 H2 fun b H3=>if b=true then te σ2 H3 fun y H4=>Nx (ys++[y]) H4 else Nx ys H3)
  (stop:∀ys H,Pv N ys H->J.stop N H/\∀p H',dX H p (.lst ys) H'->Q (.ref p) H'):tG J n js g tc te σ H1 fun ys H2=>∀p,H2 p=none->Q (.ref p) (upd H2 p (.lst ys)):=
 bo N Pv h0 go fun ys H h=>⟨(stop ys H h).1,fun p hp=>(stop ys H h).2 p _ ⟨hp,rfl⟩⟩
theorem e9 {α:Type}{xs:List α}{i:Int}{v: α}(h0:0<=i)(h:xs[i.toNat]? = some v):rg xs i=some v:=by
 have q:=m9 h
 have e:((i.toNat:Nat):Int)=i:=by omega
 rw[e] at q
 exact q
noncomputable def yR:PyData->String
 | .none => "NoneType"
 | .bool _ => "bool"
 | .int _ => "int"
 | .str _ => "str"
 | .list _ => "list"
 | .tuple _ => "tuple"
 | .dict _ => "dict"
noncomputable def lO (d:PyData)(T:String):Bool:=yR d==T||(yR d == "bool" && T == "int")
theorem kb (K:Jb)(d:PyData):Ys K (.type (yR d)) (.type "bool")=some (lO d "bool")/\Ys K (.type (yR d)) (.type "int")=some (lO d "int")/\Ys K (.type (yR d)) (.type "str")=some (lO d "str") /\
  Ys K (.type (yR d)) (.type "list")=some (lO d "list")/\Ys K (.type (yR d)) (.type "tuple")=some (lO d "tuple"):=by
 cases d<;>exact⟨rfl,rfl,rfl,rfl,rfl⟩
section
variable {X:Cx}
theorem AW {pins:List (Addr×Obj)}{σ:St}{H:Hp}{s:Shared}{x:V}{u:Value}{d:PyData}(I:Inv X pins σ H s)(rx:RelV x u)(h:Den X.K H d x):∃HH:Heap->Prop,PySem.W.KitX X.K u (.type (yR d)) HH/\HH s.heap/\u ≠ .builtin "__main__.__loader__#opaque":=by
 cases d with
 | none=>unfold Den at h;subst h;cases rx;exact⟨_,PySem.W.kitx_none,True.intro,fun z=>nomatch z⟩
 | bool b=>unfold Den at h;subst h;cases rx;exact⟨_,PySem.W.kitx_bool,True.intro,fun z=>nomatch z⟩
 | int i=>unfold Den at h;subst h;obtain⟨t,rfl⟩:=rx;exact⟨_,PySem.W.kitx_int,True.intro,fun z=>nomatch z⟩
 | str y=>unfold Den at h;subst h;obtain⟨t,rfl⟩:=rx;exact⟨_,PySem.W.kitx_str,True.intro,fun z=>nomatch z⟩
 | list ds=>
  unfold Den at h
  refine ae.el (h) _ ?_
  rintro a vs rfl h2 _
  cases rx
  obtain⟨ay,_,⟨o,n,e1,e2,_⟩,_⟩:=I.list h2
  exact⟨_,PySem.W.kitx_list,⟨o,e1,e2⟩,fun z=>nomatch z⟩
 | tuple ds=>
  unfold Den at h
  refine ae.el (h) _ ?_
  rintro a vs rfl h2 _
  cases rx
  obtain⟨ay,_,⟨o,e1,e2,_⟩,_⟩:=I.tuple h2
  exact⟨_,PySem.W.kitx_tuple,⟨o,e1,e2⟩,fun z=>nomatch z⟩
 | dict _=>unfold Den at h;exact h.elim
theorem vC:cj X (.builtin "isinstance") (fun xs H Q=>∃(x:V) (T:String) (d:PyData) (b:Bool),xs=[x,.ty T]/\Den X.K H d x/\Ys X.K (.type (yR d)) (.type T)=some b/\Q (.bl b) H):=by
 intro pins s σ H xs us Q I r h
 refine ae.el (h) _ ?_
 rintro x T d b rfl hd e q
 refine ae.el (vals2 r) _ ?_
 rintro u w' rfl r1 r2
 cases r2
 refine ae.el (AW I r1 hd) _ ?_
 rintro HH Z hh hx
 exact Yc Z I.oW hh e hx fun tk=>⟨.bl b,H,I.tok _,rfl,q⟩
def Mq (K:Jb):List V->Hp->VK->Prop:=fun xs H Q=>(∃(x:V) (T:String) (d:PyData) (b:Bool),xs=[x,.ty T]/\Den K H d x/\Ys K (.type (yR d)) (.type T)=some b/\Q (.bl b) H) ∨
 ∃x T t b,xs=[x,.ty T]/\iM K H x t/\Ys K t (.type T)=some b/\Q (.bl b) H
theorem kP (K:Jb)(hK:X.K=K:=by rfl):cj X (.builtin "isinstance") (Mq K):=by subst hK;exact vC.or xx
end
noncomputable def NU (z:Str):It:=⟨fun i _=>i<z.cps.size,fun i H x H'=>H'=H/\∀c,z.cps[i]? = some c->x = .str ⟨#[c]⟩,fun i _=>z.cps.size<=i⟩
theorem uF {P:Program}{w:World}{K:Jb}{tg:Expr}(it:Addr)(z:Str)(t:Tok):Turn P w K tg (NU z) [it] it (fun i h=>h.IsStrIter it "str_ascii_iterator" z t i) where
 mem:=by simp
 obj:=fun i h st b hb=>by
  have e:b=it:=by simpa using hb
  subst e
  obtain⟨o,h1,h2,h3⟩:=st
  exact⟨o,h1,fun v q=>by rw[h3] at q;cases q⟩
 keep:=fun i h h' st k=>by
  obtain⟨o,h1,r⟩:=st
  exact⟨o,k it (by simp) o h1,r⟩
 item:=by
  intro X hP hw hK hc i pins s σ H E I hf st hg
  subst hP hw hK
  obtain⟨f0,f1,f2,f3,f4,f5⟩:=hf it (by simp)
  have hg:i<z.cps.size:=hg
  refine wpAny_pyNext_ascii_item st (c:=z.cps[i]) (by simp[hg]) fun h' aE hs' =>?_
  have I1:Inv X pins σ H { s with heap:=h',toks:=s.toks+1 }:=I.turned (fun b o hb e=>hs'.extBut b o hb e) f0 f1 f3 f4 f5
  obtain⟨o,h1,h2,h3⟩:=id aE
  refine⟨_,rfl,tF (s:={ s with heap:=h',toks:=s.toks+1 }) (n := "str_ascii_iterator") h1 h2 h3 (by decide) ⟨.str ⟨#[z.cps[i]]⟩,H,I1,⟨_,rfl⟩,⟨rfl,fun c e =>?_⟩,aE,fun b hb=>(hf b hb).1⟩⟩
  rw[J7 hg] at e
  cases e;rfl
 done:=by
  intro X hP hw hK hc i pins s σ H E I hf st hg
  subst hP hw hK
  obtain⟨f0,f1,f2,f3,f4,f5⟩:=hf it (by simp)
  exact wpAny_pyNext_ascii_end (I.ok.hd hc) st (Yb hg) fun h' eb=>⟨rfl,I.turned (t':=s.toks) (fun b o hb e=>eb b o hb e) f0 f1 f3 f4 f5⟩
 self:=fun _ _ _ _ _ st h=>wpAny_pyIter_striter_ascii st h
def Mp (tl:TE):TI:=fun σ H R=>tl σ H fun x H1=>∃z,x = .str z/\z.cps.all (· < 128)=true/\R (NU z) H1
section
variable {X:Cx}{tg:Expr}
theorem zt {l:Expr}{tl:TE}(hl:PE X l tl):PI X tg l (Mp tl):=by
 intro pins s σ H R I h
 refine aZ (hl s σ H _ I h) fun v s1 hz_ =>?_
 refine ae.el hz_ _ ?_
 clear hz_
 rintro x H1 I1 r1 q1
 obtain⟨z,e,hz,q⟩:=q1
 subst e
 obtain⟨t,rfl⟩:=r1
 refine wpAny_pyIter_ascii hz ?_
 refine⟨s1.heap.objs.size,[s1.heap.objs.size],_,_,H1,rfl,I1.kept (t':=s1.toks) fun b o e=>Jc _ e,uF _ z t,⟨_,Js _ rfl,rfl,rfl⟩,fun b hb =>?_,q⟩
 have e:b=s1.heap.objs.size:=by simpa using hb
 subst e
 exact I1.jF (Je _) (I1.bb.fresh (Je _))
end
theorem ux (n:Nat):sliceRange (sliceBounds none none (some (-1)) n).1 (sliceBounds none none (some (-1)) n).2.1 (sliceBounds none none (some (-1)) n).2.2=(Uu n).map fun k=>n-1-k:=by
 have e:=PyProof.Rows.picked_rev n
 rw[<-e]
 rfl
theorem yp {α β:Type}{f: α->Option β}{g: α -> β}:∀{l:List α},(∀k∈l,f k=some (g k))->l.filterMap f=l.map g
 | [],_=>rfl
 | a::l,h=>by
  rw[List.filterMap_cons_some (h a Jq),Uj,yp fun k hk=>h k (Jn _ hk)]
theorem yz (ay:List Value):slicePick ay.toArray none none (some (-1))=ay.reverse.toArray:=by
 unfold slicePick
 rw[ux,Jm]
 congr 1
 apply List.ext_getElem?
 intro i
 rw[List.filterMap_map]
 have hm:∀k∈Uu ay.length,((fun x=>ay.toArray[x]?)∘fun k=>ay.length-1-k) k=some (ay.reverse.getD k .none):=fun k hk=>by
  have hk:=Yr.mp hk
  simp only[Function.comp]
  rw[Yt,List.getElem?_reverse (by omega +splitMinMax)]
  rw[List.getElem?_toArray,Jd (by omega +splitMinMax)]
  rfl
 have e2:(Uu ay.length).filterMap ((fun x=>ay.toArray[x]?)∘fun k=>ay.length-1-k)=(Uu ay.length).map fun k=>ay.reverse.getD k .none:=by
  exact yp hm
 rw[e2,Jk]
 by_cases hi:i<ay.length
 ·rw[List.getElem?_range hi,Jd (by simpa using hi)]
  simp[List.getD,hi]
 ·rw[List.getElem?_eq_none (by simp;omega),List.getElem?_eq_none (by simp;omega)]
  rfl
section
variable {X:Cx}{e:Expr}{te:TE}{pos p2 p3 p4:Pos}{j:Nat}
def Kb (K:Jb)(te:TE):TE:=fun σ H Q=>te σ H fun x H1=>cq fun a xs=>x = .ref a/\aK K H1 a xs/\∀p H',dX H1 p (.lst xs.reverse) H'->Q (.ref p) H'
theorem Vals.rev:∀{xs:List V} {us:List Value},Vals xs us->Vals xs.reverse us.reverse:=by
 intro xs us t
 induction t with
 | nil=>exact .nil
 | cons r _ ih=>
  rw[List.reverse_cons,List.reverse_cons]
  exact ih.append (.cons r .nil)
theorem C8 (K:Jb)(he:PE X e te)(hK:X.K=K:=by rfl):PE X (.Subscript e (.Slice none none (some (.UnaryOp .USub (.Constant (.int 1) j p4) p3)) p2) pos) (Kb K te):=by
 subst hK
 intro pins s σ H Q I h
 refine Subscript_ (aZ (he s σ H _ I h) fun v s1 hz_ =>?_)
 refine ae.el hz_ _ ?_
 clear hz_
 rintro x H1 I1 r1 q1
 obtain⟨a,xs,rfl,hx,q⟩:=q1
 cases r1
 refine wpAny_Slice ?_
 rw[evalPart_none]
 refine wpAny_pure ?_
 refine wpAny_pure ?_
 have hs:PE X (.UnaryOp .USub (.Constant (.int 1) j p4) p3) (Oq (rU fun i =>.int (-i)) (tC (.int 1))):=BN yB ao
 have hp:=bw hs s1 σ H1 (fun o H2=>o=some (-1)/\H2=H1) I1 ⟨1,rfl,-1,rfl,rfl,rfl⟩
 refine aZ hp fun vs s3 hz_ =>?_
 refine ae.el hz_ _ ?_
 clear hz_
 rintro o H3 I3 ps eo eh
 subst eo eh
 have I4:Inv X pins σ H3 { s3 with heap:=s3.heap.push { cls := .type "slice",data := .fields #[.none,.none,vs] } }:=I3.kept (t':=s3.toks) fun b ob q=>Jc _ q
 obtain⟨ay,r,ht,hz⟩:=I4.list hx
 have hlen:=r.length
 refine tail_any (ops:=[.ref a,.ref s3.heap.objs.size]) ht.isList.typeIs slot_list_getitem.lookup ?_ (by with_unfolding_all rfl)
 refine wpAny_getItem_list_slice (st:=some (-1)) ht.isList (Heap.IsSliceOf.new ..) .none .none ps (by decide) ?_ (by rw[Jm];omega)
 rw[yz]
 refine⟨.ref _,_,I4.laid (t':=s3.toks) (o := .lst xs.reverse) (fun b ob q=>Jc _ q) (Je _) ?_,rfl,q _ _ ⟨I4.bb.fresh (Je _),rfl⟩⟩
 exact⟨by rw[List.length_reverse];exact hz,_,0,r.rev,Js _ rfl⟩
end
section
variable {prog:Program}{w:World}{A:Around}{R:Result->Shared->Prop}{s:Shared}
theorem qI {kx vx target iter:Expr}{ifs:List Expr}{scope:Scope}{pos:Pos}{it:Value}{D:Addr}{env:Env}(I:Nat->Shared->Prop)
  (turn:∀n s,I n s->wpAny (model prog w) A (pyNext it) (fun r s1=>match r with
   | none=>R (.ok .next) s1
   | some v=>wpAny (model prog w) A (letOwnedTupleGo target it v) (fun _ s1'=>wpAny (model prog w) A (assign target env v) (fun _ s2=>
     wpAny (model prog w) A (oy ifs env) (fun ok s3=>
      if ok=true then wpAny (model prog w) A (eval kx env) (fun kv s4=>wpAny (model prog w) A (eval vx env) (fun vv s5=>
       wpAny (model prog w) A (dictSet D kv vv) (fun _ s6=>∃m,m<n/\I m s6) fL s5) fL s4) fL s3
      else ∃m,m<n/\I m s3) fL s2) fL s1') fL s1) fL s)
  (n:Nat) (h:I n s):codeAny (model prog w) A (.compLoop (.DictComp kx vx [⟨target,iter,ifs,0⟩] scope pos) 0 it (.ref D) env) R s:=by
 refine codeAny_loop rfl I (fun n s hI=>(show wpAny _ A (Sem.onRaise (compTurn (.DictComp kx vx [⟨target,iter,ifs,0⟩] scope pos) 0 it (.ref D) env) (fun x=>do noteFrame x env;theTreesLotGoes x)) _ _ s from wpAny_noted ?_)) n h
 rw[compTurn_dict]
 refine wpAny_bind (wpAny_standAt (wpAny_bind (bE (aZ (turn n s hI) fun r s1 h1 =>?_))))
 cases r with
 | none=>exact wpAny_pure h1
 | some v=>
  refine wpAny_bind (bE (aZ h1 fun _ s1' h1' =>?_))
  refine wpAny_bind (bE (aZ h1' fun _ s2 h2=>wpAny_bind (bE (aZ h2 fun ok s3 h3 =>?_))))
  cases ok with
  | false=>exact wpAny_pure ⟨rfl,h3⟩
  | true=>
   exact wpAny_bind (wpAny_bind (bE (aZ h3 fun kv s4 h4=>wpAny_bind (wpAny_holding (bE (aZ h4 fun vv s5 h5=>wpAny_bind (wpAny_standAt (wpAny_holding (bE (aZ h5 fun _ s6 h6=>wpAny_pure ⟨rfl,h6⟩))))))))))
end
section
variable {X:Cx}{pins:List (Addr×Obj)}{σ:St}{H:Hp}{s:Shared}{a:Addr}{y v:V}{u r:Value}{A:Around}{E:Value->Shared->Prop}
theorem mi {kvs:List (Key×V)}{k:Key}{Q:Unit->Shared->Prop}(I:Inv X pins σ H s)(e:H a=some (.dK kvs))(l:kvs.length<sizeLine)(ry:RelV (kV k) u)(rv:RelV v r)
  (h:∀s',Inv X pins σ (upd H a (.dK (putK kvs k v))) s'->Q () s'):wpAny (model X.prog X.w) A (dictSet a u r) Q E s:=by
 refine ae.el (v5 I.bb e) _ ?_
 rintro z hd vs rel dd
 have hz:vs.length<=sizeLine:=by rw[<-rel.length];exact z
 have hl:(putK kvs k v).length<=sizeLine:=by have:=dF kvs k v;omega
 refine wpAny_dictSet_pairs (hsz:=hz) (iV ry) dd fun h' dd' hs=>h _ ?_
 have he:∃q,h'.get? a=some q:=let ⟨q,_,_,hq,_⟩:=dd'; ⟨q,hq⟩
 exact iC I (by rw[e];exact True.intro) hs he (ox hl hd (rel.put k rv) dd')
end
section
variable {X:Cx}{pins:List (Addr×Obj)}{σ:St}{H:Hp}{s:Shared}{scope:Scope}{Nc Fc:List Str}{js:List Nat}{cl:List (Str×Addr)}{C:Addr}{fp:List Addr}
theorem qG (I:Inv X pins σ H s)(c:dQ X scope Nc Fc js)(dr:∀n c,cl.lookup n=some c->X.env.cells.lookup n=some c)(gS:∀y∈scope.names,y.2 = .free->∃c,cl.lookup y.1=some c)
  (hC:s.heap.objs.size<=C) (hf:∀b∈fp,eO X pins H b) (ho:∀b∈fp,∃o,s.heap.get? b=some o) {h1:Heap} {t1:Nat} {m:Str->Option Value}
  (hk:∀b o,s.heap.get? b=some o->h1.get? b=some o) (hm:h1.Ns C m) :
  Inv (fu X Nc Fc scope cl C s H fp) [] (Jp Nc.length none++cR σ js) H { s with heap:=h1,toks:=t1 }:=by
 refine⟨kX I c dr gS hC hf ho,rfl,I.bare,Un.kept hk,⟨m,hm,fun i x v e1 e2 e3 =>?_⟩,fun x a e =>?_,I.bb.fresh hC,fun x a e=>I.freeC x a (dr x a e),fun p hp =>?_,I.bb.kept hk,?_⟩
 ·have e1:(Nc++Fc)[i]? = some x:=e1
  have e2:(Jp Nc.length none++cR σ js)[i]? = some (some v):=e2
  by_cases hi:i<Nc.length
  ·rw[J6 (by simpa using hi),U0] at e2
   split at e2<;>cases e2
  ·rw[Jz (by omega)] at e1
   rw[Jz (by rw[Uo];omega),Uo] at e2
   refine ae.el (c.frees _ _ e1) _ ?_
   rintro hfr j hj hN
   have hv: σ[j]? = some (some v):=by
    unfold cR at e2
    rw[Jk,hj] at e2
    have e2:some ((σ[j]?).join)=some (some v):=e2
    cases q: σ[j]? with
    | none=>rw[q] at e2;cases e2
    | some z=>rw[q] at e2;cases e2;rfl
   have kx:=c.free _ (cn hfr) rfl
   refine ae.el (I.loc) _ ?_
   rintro m0 hn0 hl0
   have LV:FF X.env.scope x:=by
    rcases kx with k|k
    ·exact .inr (.inl k)
    ·exact .inr (.inr k)
   refine ae.el (hl0 j x v hN hv LV) _ ?_
   rintro u ru lk
   refine⟨u,ru,.inr ⟨?_,?_⟩⟩
   ·rw[kY];exact dW hfr
   ·obtain⟨a,ha⟩:=gS _ (cn hfr) rfl
    refine⟨a,ha,?_⟩
    rcases lk with ⟨k,_⟩|⟨_,a',ha',hcell⟩
    ·rcases kx with q|q<;>(rw[k] at q;cases q)
    ·have e:=dr _ _ ha
     dsimp only at e
     rw[ha'] at e;cases e
     exact hcell.keeps hk
 ·obtain⟨v,z⟩:=I.cell x a (dr x a e)
  exact⟨v,z.keeps hk⟩
 ·have hp:p∈([]:List (Addr×Obj)):=hp
  cases hp
 ·show(Jp Nc.length none++cR σ js).length=(Nc++Fc).length
  unfold cR
  rw[Jf,Jf,Uo,Ja,c.lens]
end
def Bc (J:It)(n:Nat)(js:List Nat)(g:TG)(tc:TT)(tk tv:TE)(σ:St)(D:Addr)(H1:Hp)(fin:Hp->Prop):Prop:=
 ∃W:Nat->Nat->Hp->Prop,(∃m,W 0 m H1)/\∀i m H,W i m H ->
  (J.stop i H/\fin H) ∨
  (J.go i H/\∀x H',J.yld i H x H'->g x (Jp n none++cR σ js) H' fun σ2 H2=>tc σ2 H2 fun b H3=>
   if b=true then tk σ2 H3 fun y H4=>tv σ2 H4 fun z H5=>cq fun kvs k=>H5 D=some (.dK kvs)/\y=kV k/\kvs.length<sizeLine/\∃m',m'<m/\W (i+1) m' (upd H5 D (.dK (putK kvs k z))) else ∃m',m'<m/\W (i+1) m' H3)
def j8 (wi:TI)(n:Nat)(js:List Nat)(g:TG)(tc:TT)(tk tv:TE):TE:=fun σ H Q=>wi σ H fun J H1=>∀D,H1 D=none->Bc J n js g tc tk tv σ D (upd H1 D (.dK [])) fun H2=>Q (.ref D) H2
theorem j0 {X:Cx}{kx vx tg iter:Expr}{ifs:List Expr}{scope:Scope}{pos:Pos}{Nc Fc:List Str}{js:List Nat}{wi:TI}{g:TG}{tc:TT}{tk tv:TE}{use:Option (Value->Sem Unit)}{QV:Value->Shared->Prop}
  (cP:X.calm=true) (c:dQ X scope Nc Fc js) (hi:PI X tg iter wi)
  (hg:∀cl C s H fp,PG (fu X Nc Fc scope cl C s H fp) tg g) (yr:∀cl C s H fp,Bp (fu X Nc Fc scope cl C s H fp) ifs tc) (cY:∀cl C s H fp,PE (fu X Nc Fc scope cl C s H fp) kx tk) (vO:∀cl C s H fp,PE (fu X Nc Fc scope cl C s H fp) vx tv) (gk:Gk Nc.length g)
  {pins:List (Addr×Obj)} {s:Shared} {σ:St} {H:Hp} {fin:Addr->Hp->Prop} (I:Inv X pins σ H s)
  (h:wi σ H fun J H1=>∀D,H1 D=none->Bc J Nc.length js g tc tk tv σ D (upd H1 D (.dK [])) (fin D))
  (behind:∀(C D:Addr) (m:Str->Option Value) (H2:Hp) (s2:Shared),Inv X pins σ H2 s2->s2.heap.Ns C m->eO X pins H2 C->fin D H2->compPost (model X.prog X.w) X.A X.xe use QV (.ref D) C (.ok .next) s2)
  (hs:∀x,foldedSetIterable iter X.env x=pure x) :
  wpAny (model X.prog X.w) X.A (comprehension (.DictComp kx vx [⟨tg,iter,ifs,0⟩] scope pos) scope X.env (firstIterPos [⟨tg,iter,ifs,0⟩] pos) newDict false (eval iter X.env) use) QV X.xe s:=by
 obtain⟨cl,hclos,dr,gS⟩:=ig (scope:=scope) (env:=X.env) fun y hy hf=>I.ok.has y.1 (c.free y hy hf)
 refine wpAny_comprehension_free (use:=use) rfl hs hclos c.kind c.names ?_
 refine aZ (hi s σ H _ I h) fun v s1 h1=>aZ h1 fun D4 s2 h2 =>?_
 obtain⟨it,fp,tn,J,H2,e,I2,T,bN,f2,all⟩:=h2
 subst e
 refine wpAny_newObj_type (wpAny_newFunctionEnv c.nocell (by intro y hy;simp at hy) (fun h1 hns1 hsb1 =>?_) c.kind)
 dsimp only at hns1 hsb1 ⊢
 have Ay:H2 s2.heap.objs.size=none:=I2.bb.fresh (Je _)
 have yf:=I2.laid (a:=s2.heap.objs.size) (o := .dK []) (h':=s2.heap.push { cls := .type "dict",data := .dict #[] }) (t':=s2.toks) (fun _ _ q=>Jc _ q) (Je _) (iJ s2.heap I2.big)
 obtain⟨W,⟨m0,w0⟩,turn⟩:=all _ Ay
 have GR:∀b∈fp,∃o,s2.heap.get? b=some o:=fun b hb=>let ⟨o,e,_⟩:=T.obj 0 _ bN b hb; ⟨o,e⟩
 have lP:∀b∈fp,b<s2.heap.objs.size:=fun b hb=>let ⟨o,e⟩:=GR b hb;Jj e
 generalize hG:s2.heap.push { cls := .type "dict",dict:=none,data := .dict #[] } = G at hns1 hsb1 yf ⊢
 have toG:∀b o,s2.heap.get? b=some o->G.get? b=some o:=fun b o e=>hG▸Jc _ e
 have hC:G.objs.size=s2.heap.objs.size+1:=by rw[<-hG,Wl]
 have old:∀b o,G.get? b=some o->h1.get? b=some o:=fun b o e=>
  hsb1.extBut b o (cE (Jj e) (Je _)) (Jc _ e)
 let D:Addr:=s2.heap.objs.size
 let s2':Shared:={ s2 with heap:=G,toks:=s2.toks }
 let H2':Hp:=upd H2 D (.dK [])
 have B0:∀b∈fp,eO X pins H2' b:=fun b hb=>by
  obtain⟨a1,a2⟩:=f2 b hb
  refine⟨?_,a2⟩
  show upd H2 D (.dK []) b=none
  rw[ak (Jw (lP b hb))];exact a1
 have fo:∀b∈fp,∃o,s2'.heap.get? b=some o:=fun b hb=>let ⟨o,e⟩:=GR b hb; ⟨o,toG b o e⟩
 have MR:∀b∈fp,b<G.objs.size:=fun b hb=>by have:=lP b hb;rw[hC];exact Wf this
 let Xc:Cx:=fu X Nc Fc scope cl G.objs.size s2' H2' fp
 have fC:∀{H':Hp},(∀b∈fp,H' b=none)->∀b∈fp,eO Xc [] H' b:=fun{H'} hn b hb=>by
  refine⟨hn b hb,?_,?_,.inl hb,fun x a e =>?_,fun p hq =>?_⟩
  ·exact cE (MR b hb) (Je _)
  ·exact(kX yf c dr gS (Je _) B0 fo).exfs b hb
  ·exact(f2 b hb).2.2.2.2.1 x a (dr _ _ e)
  ·have q:p∈([]:List (Addr×Obj))++[]:=hq
   simp at q
 have loop:∀t1,codeAny (model X.prog X.w) X.A (.compLoop (.DictComp kx vx [⟨tg,iter,ifs,0⟩] scope pos) 0 (.ref it) (.ref s2.heap.objs.size) (compEnvC scope cl G.objs.size X.env))
   (compPost (model X.prog X.w) X.A X.xe use QV (.ref s2.heap.objs.size) G.objs.size) { s2 with heap:=h1,toks:=t1 }:=by
  intro t1
  refine qI (fun n s'=>∃i H',Inv Xc [] (Jp Nc.length none++cR σ js) H' s'/\tn i s'.heap/\(∀b∈fp,H' b=none)/\W i n H') ?_ m0
   ⟨0,H2',qG yf c dr gS (Je _) B0 fo old hns1,T.keep _ _ _ bN (fun b hb o e=>old b o (toG b o e)),fun b hb=>(B0 b hb).1,w0⟩
  intro n s3
  refine ae.go ?_
  rintro i H3 I3 cN fr3 w3
  rcases turn i n H3 w3 with ⟨stop,qn⟩|⟨go,step⟩
  ·refine aZ (T.done Xc rfl rfl rfl cP i _ s3 _ H3 fL I3 (fC fr3) cN stop) fun r s4 hz_ =>?_
   refine ae.el hz_ _ ?_
   clear hz_
   rintro hr I4
   subst hr
   show compPost _ _ _ _ _ _ _ _ _
   refine ae.el (I4.loc) _ ?_
   rintro mC hmC _
   have Fw:H3 G.objs.size=none:=I4.free
   have u:Un (nq X.stack) fp H2' H3 G s4.heap:=I4.base
   have o8:∀b∈fp,(b∈X.ex∨X.s₀.heap.objs.size<=b)/\b≠X.env.locals/\(∀x c,X.env.cells.lookup x=some c->c≠b)/\∀p∈X.pn++pins,p.1≠b:=fun b hb=>
    ⟨(f2 b hb).2.2.2.1,(f2 b hb).2.1,(f2 b hb).2.2.2.2.1,(f2 b hb).2.2.2.2.2⟩
   have EJ:s4.os=s2'.os:=I4.os
   have J4:Inv X pins σ H3 s4:=yf.tw (H':=H3) EJ u I4.bb I4.bare o8
   exact behind G.objs.size D mC H3 s4 J4 hmC (yf.jF (Je _) Fw) qn
  ·refine aZ (T.item Xc rfl rfl rfl cP i _ s3 _ H3 fL I3 (fC fr3) cN go) fun r s4 hz_ =>?_
   refine ae.el hz_ _ ?_
   clear hz_
   rintro u hr h4
   subst hr
   show wpAny _ _ (letOwnedTupleGo tg (.ref it) u) _ _ _
   refine aZ h4 fun _ s5 hz_ =>?_
   refine ae.el hz_ _ ?_
   clear hz_
   rintro x H5 I5 r5 y5 cS fr5
   have Am:=I5.pinned (fC fr5) (T.obj _ _ cS)
   refine aZ (hg cl G.objs.size s2' H2' fp s5 _ H5 x u _ Am r5 (gk _ _ _ _ (step x H5 y5))) fun _ s6 hz_ =>?_
   refine ae.el hz_ _ ?_
   clear hz_
   rintro σ6 H6 I6 q6 kσ kl
   refine aZ (yr cl G.objs.size s2' H2' fp s6 σ6 H6 _ I6 q6) fun b s7 hz_ =>?_
   refine ae.el hz_ _ ?_
   clear hz_
   rintro H7 I7 q7
   have later:∀{σ':St} {H':Hp} {s':Shared},Inv Xc ([]++eG fp s5.heap) σ' H' s'->tn (i+1) s'.heap/\∀b∈fp,H' b=none:=fun{σ' H' s'} Iz=>by
    refine⟨T.keep _ _ _ cS fun b hb o e=>(Iz.pin (b,o) (Ji _ (Ji _ (bX hb e)))).1,fun b hb =>?_⟩
    refine ae.el (T.obj _ _ cS b hb) _ ?_
    rintro o e d
    exact(Iz.pin (b,o) (Ji _ (Ji _ (bX hb e)))).2.1
   have back:∀{pl:List (Addr×Obj)} {H':Hp} {s':Shared},Inv Xc pl σ6 H' s'->Inv Xc pl (Jp Nc.length none++cR σ js) H' s':=fun{pl H' s'} Iz=>by
    refine Iz.weak (by rw[<-kl]) fun j v hj =>?_
    by_cases hn:j<Nc.length
    ·rw[J6 (by simpa using hn),U0] at hj
     split at hj<;>cases hj
    ·rw[kσ j (by omega)];exact hj
   cases b with
   | false=>
    rw[if_neg Ju] at q7 ⊢
    refine ae.el (q7) _ ?_
    rintro m' uQ w7
    obtain⟨l1,l2⟩:=later I7
    exact⟨m',uQ,i+1,H7,back I7.dN,l1,l2,w7⟩
   | true=>
    rw[if_pos rfl] at q7 ⊢
    refine aZ (cY cl G.objs.size s2' H2' fp s7 σ6 H7 _ I7 q7) fun yv s8 hz_ =>?_
    refine ae.el hz_ _ ?_
    clear hz_
    rintro y H8 I8 r8 q8
    refine aZ (vO cl G.objs.size s2' H2' fp s8 σ6 H8 _ I8 q8) fun zv s9 hz_ =>?_
    refine ae.el hz_ _ ?_
    clear hz_
    rintro z H9 I9 r9 q9
    refine ae.el (q9) _ ?_
    rintro kvs k eD ey hl m' uQ w9
    subst ey
    refine mi (X:=Xc) I9 eD hl r8 r9 fun s10 I10 =>?_
    obtain⟨l1,l2⟩:=later I10
    exact⟨m',uQ,i+1,_,back I10.dN,l1,l2,w9⟩
 exact codeAny_compStart_dict (loop _) (T.self _ 0 _ _ _ (T.keep _ _ _ bN fun b hb o e=>old b o (toG b o e)) (loop _))
theorem kQ {X:Cx}{kx vx tg iter:Expr}{ifs:List Expr}{scope:Scope}{pos:Pos}{Nc Fc:List Str}{js:List Nat}{wi:TI}{g:TG}{tc:TT}{tk tv:TE}
  (cP:X.calm=true) (c:dQ X scope Nc Fc js) (hi:PI X tg iter wi) (gk:Gk Nc.length g)
  (hg:∀cl C s H fp,PG (fu X Nc Fc scope cl C s H fp) tg g) (yr:∀cl C s H fp,Bp (fu X Nc Fc scope cl C s H fp) ifs tc) (cY:∀cl C s H fp,PE (fu X Nc Fc scope cl C s H fp) kx tk) (vO:∀cl C s H fp,PE (fu X Nc Fc scope cl C s H fp) vx tv)
  (hs:∀x,foldedSetIterable iter X.env x=pure x:=by intro _;rfl) :
  PE X (.DictComp kx vx [⟨tg,iter,ifs,0⟩] scope pos) (j8 wi Nc.length js g tc tk tv):=by
 intro pins s σ H Q I h
 rw[arm_eval_DictComp]
 refine j0 (use:=none) (fin:=fun D H2=>Q (.ref D) H2) cP c hi hg yr cY vO gk I h (fun C D m H2 s2 I2 hm hC q =>?_) hs
 refine⟨m,hm,fun h' hs' =>?_⟩
 exact⟨.ref D,_,I2.turned (it:=C) (t':=s2.toks) (fun b o hb e=>hs'.extBut b o hb e) hC.1 (hC.2.1) hC.2.2.2.1 hC.2.2.2.2.1 hC.2.2.2.2.2,rfl,q⟩
theorem pE {X:Cx}{i:Nat}{y:Str}{kx vx tg iter:Expr}{ifs:List Expr}{scope:Scope}{pos pos' py:Pos}{Nc Fc:List Str}{js:List Nat}{wi:TI}{g:TG}{tc:TT}{tk tv:TE}(hN:X.N.Nodup)(hy:X.N[i]? = some y)(hl:Loc X.env.scope y)
  (cP:X.calm=true) (c:dQ X scope Nc Fc js) (hi:PI X tg iter wi) (gk:Gk Nc.length g)
  (hg:∀cl C s H fp,PG (fu X Nc Fc scope cl C s H fp) tg g) (yr:∀cl C s H fp,Bp (fu X Nc Fc scope cl C s H fp) ifs tc) (cY:∀cl C s H fp,PE (fu X Nc Fc scope cl C s H fp) kx tk) (vO:∀cl C s H fp,PE (fu X Nc Fc scope cl C s H fp) vx tv)
  (Lm:swapsWith (.DictComp kx vx [⟨tg,iter,ifs,0⟩] scope pos) (some (.Name y py)) pos'.line X.env=pure true:=by rfl)
  (hs:∀x,foldedSetIterable iter X.env x=pure x:=by intro _;rfl)
  (hf:X.fn y=true∨X.env.scope.names.lookup y=some .local:=by first|exact .inl rfl|exact .inr rfl|assumption) :
  PS X (.Assign [.Name y py] (.DictComp kx vx [⟨tg,iter,ifs,0⟩] scope pos) pos') (gC (j8 wi Nc.length js g tc tk tv) (fM i)):=by
 intro pins s σ H E I h
 rw[exec_Assign_Name_used _ _ _ _ Lm]
 refine wpAny_bind (wpAny_standAt (wpAny_bind ?_))
 show wpAny _ X.A (do let _ <-comprehension (.DictComp kx vx [⟨tg,iter,ifs,0⟩] scope pos) scope X.env _ newDict false (eval iter X.env) (some (assign (.Name y py) X.env))) _ _ s
 refine wpAny_bind (aZ (j0 (use:=some (assign (.Name y py) X.env)) (fin:=fun D H2=>fM i (.ref D) σ H2 E.nx) (QV:=fun _ s'=>SP X pins E .next s') cP c hi hg yr cY vO gk I h (fun C D m H2 s2 I2 hm hC q =>?_) hs) fun _ s' hq=>wpAny_pure (wpAny_pure hq))
 show wpAny _ _ (assign (.Name y py) X.env (.ref D)) _ _ s2
 refine wpAny_assign_Name (i5 I2 hN hy hl (v := .ref D) rfl (fun s3 I3 hz_=>ae.el hz_ _ fun a y9 ha =>?_) hf)
 have qO:C≠a:=by
  rcases ha with e|e
  ·rw[e];exact hC.2.1
  ·exact fun z=>hC.2.2.2.2.1 _ _ e z.symm
 refine⟨m,hm.at' fun o e=>y9.extBut _ o qO e,fun h' hs' =>?_⟩
 exact⟨_,_,I3.turned (it:=C) (t':=s3.toks) (fun b o hb e=>hs'.extBut b o hb e) hC.1 hC.2.1 hC.2.2.2.1 hC.2.2.2.2.1 hC.2.2.2.2.2,q⟩
section
variable {prog:Program}{w:World}{A:Around}{E:Value->Shared->Prop}{s:Shared}{a₀:Array Keyed}{key:Keyed->Int}{kd:SortKind}
def iz (prog:Program)(w:World)(A:Around)(E:Value->Shared->Prop)(s:Shared)(a₀:Array Keyed)(key:Keyed->Int)(kd:SortKind):Prop:=
 ∀(st:SortSt) (x y:Keyed) (Q:Option Bool->SortSt->Prop),x∈a₀.toList->y∈a₀.toList->kindOf st=kd->Q (some (decide (key x<key y))) st->wpS (model prog w) A E s (lt' x y) Q st
noncomputable def ky (key:Keyed->Int)(xs:Array Keyed)(i:Nat):Int:=match xs[i]? with
 | some p=>key p
 | none=>0
theorem di {xs ys:Array Keyed}{i j:Nat}(h:xs[i]? = ys[j]?):ky key xs i=ky key ys j:=by unfold ky;rw[h]
theorem df {xs:Array Keyed}{i:Nat}{p:Keyed}(h:xs[i]? = some p):ky key xs i=key p:=by unfold ky;rw[h]
structure Af (a₀:Array Keyed)(kd:SortKind)(lo:Nat)(gX st:SortSt):Prop where
 perm:(arrOf st).Perm a₀
 kind:kindOf st=kd
 failed:failedOf st=none
 pend:pendingOf st=pendingOf gX
 low:∀i,i<lo->(arrOf st)[i]? = (arrOf gX)[i]?
theorem Af.size {lo:Nat}{gX st:SortSt}(h:Af a₀ kd lo gX st):(arrOf st).size=a₀.size:=h.perm.size_eq
theorem Af.set {lo:Nat}{gX st:SortSt}(h:Af a₀ kd lo gX st){xs:Array Keyed}(hp:xs.Perm (arrOf st))(hl:∀i,i<lo->xs[i]? = (arrOf st)[i]?):Af a₀ kd lo gX (setArr st xs):=
 ⟨hp.trans h.perm,h.kind,h.failed,h.pend,fun i hi=>(hl i hi).trans (h.low i hi)⟩
theorem xK {xs:Array Keyed}(hp:xs.Perm a₀){i:Nat}{p:Keyed}(h:xs[i]? = some p):p∈a₀.toList:=by
 refine(Wa.mp hp).mem_iff.mp ?_
 exact Array.mem_toList_iff.mpr (Array.mem_of_getElem? h)
theorem gH {xs:Array Keyed}{i:Nat}{st:SortSt}{Q:Keyed->SortSt->Prop}(hi:i<xs.size)(h:∀p,xs[i]? = some p->Q p st):wpS (model prog w) A E s (elem' xs i) Q st:=by
 rw[elem'_eq,getElem?_pos xs i hi]
 exact wpS_pure (h _ (getElem?_pos xs i hi))
theorem zU {st:SortSt}{i j:Nat}{Q:Option Bool->SortSt->Prop}(hL:iz prog w A E s a₀ key kd)(hp:(arrOf st).Perm a₀)(hk:kindOf st=kd)(hi:i<a₀.size)(hj:j<a₀.size)
  (h:Q (some (decide (ky key (arrOf st) i<ky key (arrOf st) j))) st):wpS (model prog w) A E s (ltAt' i j) Q st:=by
 rw[ltAt'_eq]
 refine wpS_bind (wpS_get ?_)
 show wpS _ _ _ _ (do let x <-elem' (arrOf st) i;let y <-elem' (arrOf st) j;lt' x y) Q st
 have hs:=hp.size_eq
 refine wpS_bind (gH (by omega) fun p e1=>wpS_bind (gH (by omega) fun q e2 =>?_))
 refine hL _ _ _ _ (xK hp e1) (xK hp e2) hk ?_
 rw[df e1,df e2] at h
 exact h
theorem Af.lt {lo:Nat}{gX st:SortSt}{i j:Nat}{Q:Option Bool->SortSt->Prop}(h:Af a₀ kd lo gX st)(hL:iz prog w A E s a₀ key kd)(hi:i<a₀.size)(hj:j<a₀.size)
  (q:Q (some (decide (ky key (arrOf st) i<ky key (arrOf st) j))) st):wpS (model prog w) A E s (ltAt' i j) Q st:=zU hL h.perm h.kind hi hj q
def Sg (key:Keyed->Int)(xs:Array Keyed)(i j:Nat):Prop:=∀p q,i<=p->p<=q->q<j->ky key xs p<=ky key xs q
def Ng (key:Keyed->Int)(xs:Array Keyed)(i j:Nat):Prop:=∀p q,i<=p->p<=q->q<j->ky key xs q<=ky key xs p
theorem i0 {xs:Array Keyed}{i j:Nat}(hj:j<=xs.size)(k:Nat):
  ky key (mirror xs i j ((j-i) / 2)) k=if i<=k/\k<j then ky key xs (i+j-1-k) else ky key xs k:=by
 have e:=getElem?_mirror_all (i:=i) hj k
 by_cases h1:i<=k/\k<j
 ·rw[if_pos h1] at e ⊢;exact di e
 ·rw[if_neg h1] at e ⊢;exact di e
theorem rC {xs:Array Keyed}{i j lo:Nat}(hj:j<=xs.size)(hi:lo<=i):∀k,k<lo->(mirror xs i j ((j-i) / 2))[k]? = xs[k]?:=fun k hk=>by
 rw[getElem?_mirror_all hj,if_neg (by omega)]
theorem cB {xs:Array Keyed}{i j:Nat}(hj:j<=xs.size)(heq:∀k,i<=k->k<j->ky key xs k=ky key xs (j-1))(k:Nat):
  ky key (mirror xs i j ((j-i) / 2)) k=ky key xs k:=by
 rw[i0 hj]
 split
 ·rw[heq _ (by omega) (by omega),heq k (by omega) (by omega)]
 ·rfl
theorem Af.rev {lo i j:Nat}{gX st:SortSt}(h:Af a₀ kd lo gX st)(hi:lo<=i)(hj:j<=a₀.size):Af a₀ kd lo gX (setArr st (mirror (arrOf st) i j ((j-i) / 2))):=
 h.set (mirror_perm _ _ _ _) (rC (by rw[h.size];exact hj) hi)
noncomputable def yn (lo a bQ:Nat):StateT SortSt Sem AscSt:=
 forIn [a:bQ] ((none,a):AscSt) fun _ c=>do
  let x <-ltAt' (lo+c.snd) (lo+c.snd-1)
  match x with
  | some smaller=>if smaller=true then pure (ForInStep.done (none,c.snd)) else pure (ForInStep.yield (none,c.snd+1))
  | _=>pure (ForInStep.done (some none,c.snd))
noncomputable def qg (lo n bQ:Nat):StateT SortSt Sem (Option Nat):=do
 reverseSlice' lo (lo+n)
 let c <-yn lo n bQ
 match c.fst with
 | some r=>pure r
 | none=>pure (some c.snd)
noncomputable def tO (lo n bQ:Nat):StateT SortSt Sem DescSt:=
 forIn [n:bQ] ((none,n,0):DescSt) fun _ c=>do
  let x <-ltAt' (lo+c.snd.fst) (lo+c.snd.fst-1)
  match x with
  | some smaller=>
   if smaller=true then
    if c.snd.snd>0 then do
     reverseSlice' (lo+c.snd.fst-(c.snd.snd+1)) (lo+c.snd.fst)
     pure (ForInStep.yield (none,c.snd.fst+1,0))
    else pure (ForInStep.yield (none,c.snd.fst+1,0))
   else do
    let x <-ltAt' (lo+c.snd.fst-1) (lo+c.snd.fst)
    match x with
    | some larger=>
     if larger=true then pure (ForInStep.done (none,c.snd.fst,c.snd.snd))
     else pure (ForInStep.yield (none,c.snd.fst+1,c.snd.snd+1))
    | _=>pure (ForInStep.done (some none,c.snd.fst,c.snd.snd))
  | _=>pure (ForInStep.done (some none,c.snd.fst,c.snd.snd))
noncomputable def pN (lo n bQ:Nat):StateT SortSt Sem (Option Nat):=do
 liftM (rule "list.sort.descending-run")
 let c <-tO lo (n+1) bQ
 match c.fst with
 | some r=>pure r
 | none=>
  if c.snd.snd>0 then do
   reverseSlice' (lo+c.snd.fst-(c.snd.snd+1)) (lo+c.snd.fst)
   qg lo c.snd.fst bQ
  else qg lo c.snd.fst bQ
theorem uK (lo bQ:Nat):countRun' lo bQ=(do
  let c <-yn lo 1 bQ
  match c.fst with
  | some r=>pure r
  | none=>
   if (c.snd==bQ)=true then pure (some c.snd)
   else if c.snd>1 then do
    let x <-ltAt' lo (lo+c.snd-1)
    match x with
    | some rose=>if rose=true then pure (some c.snd) else do
      reverseSlice' lo (lo+c.snd)
      pN lo c.snd bQ
    | _=>pure none
   else pN lo c.snd bQ):=by
 rw[countRun'_eq]
 dsimp only
 unfold pN qg tO yn
 congr 1
 funext c
 obtain⟨r,n⟩:=c
 cases r with
 | some r=>rfl
 | none=>
  dsimp only
  split
  ·rfl
  ·split
   ·congr 1
    funext x
    cases x with
    | none=>rfl
    | some rose=>
     dsimp only
     split
     ·rfl
     ·congr 1
      funext _r
      congr 1;funext _u;congr 1;congr 1;funext s2;obtain⟨r2,n2,q2⟩:=s2
      cases r2 with
      | some r2=>rfl
      | none=>(dsimp only;split; (congr 1;funext _v; (congr 1;funext _w;congr 1; (funext s3;obtain⟨r3,n3⟩:=s3;cases r3<;>rfl))); (congr 1;funext _w;congr 1; (funext s3;obtain⟨r3,n3⟩:=s3;cases r3<;>rfl)))
   ·congr 1;funext _u;congr 1;congr 1;funext s2;obtain⟨r2,n2,q2⟩:=s2
    cases r2 with
    | some r2=>rfl
    | none=>(dsimp only;split; (congr 1;funext _v; (congr 1;funext _w;congr 1; (funext s3;obtain⟨r3,n3⟩:=s3;cases r3<;>rfl))); (congr 1;funext _w;congr 1; (funext s3;obtain⟨r3,n3⟩:=s3;cases r3<;>rfl)))
theorem yg {gX st:SortSt}{lo a bQ:Nat}{Q:AscSt->SortSt->Prop}(hL:iz prog w A E s a₀ key kd)(hn:lo+bQ<=a₀.size)(ha:1<=a)(Qm:a<=bQ)(hB:Af a₀ kd lo gX st)
  (hs:Sg key (arrOf st) lo (lo+a))
  (h:∀n,a<=n->n<=bQ->Sg key (arrOf st) lo (lo+n)->(n=bQ∨ky key (arrOf st) (lo+n)<ky key (arrOf st) (lo+n-1))->Q (none,n) st) :
  wpS (model prog w) A E s (yn lo a bQ) Q st:=by
 unfold yn
 refine wpS_forRange (I:=fun x c aE=>aE=st/\c=(none,x)/\Sg key (arrOf st) lo (lo+x)) ?step ?fin ⟨rfl,rfl,hs⟩
 case fin=>
  intro c aE
  refine ae.go ?_
  rintro rfl rfl hs'
  rw[Nat.max_eq_right (by omega)] at hs' ⊢
  exact h bQ Qm (Je _) hs' (.inl rfl)
 case step=>
  intro x c aE hax Gr
  refine ae.go ?_
  rintro rfl rfl hs'
  dsimp only
  refine wpS_bind (hB.lt hL (by omega) (by omega) ?_)
  by_cases hless:ky key (arrOf aE) (lo+x)<ky key (arrOf aE) (lo+x-1)
  ·simp -iota only [hless,decide_true,if_true]
   exact wpS_pure (h x hax (by omega) hs' (.inr hless))
  ·simp -iota only [hless,decide_false,J9,if_false]
   refine wpS_pure ⟨rfl,rfl,fun i j hl fq hj =>?_⟩
   by_cases hjx:j<lo+x
   ·exact hs' i j hl fq hjx
   ·have w4:j=lo+x:=by omega
    subst w4
    by_cases gP:i=lo+x
    ·subst gP;exact Yk _
    ·exact Int.le_trans (hs' i (lo+x-1) hl (Y1 (Uq fq gP)) (by omega)) (Int.not_lt.mp hless)
theorem tQ {gX st:SortSt}{lo n bQ:Nat}{Q:Option Nat->SortSt->Prop}(hL:iz prog w A E s a₀ key kd)(hn:lo+bQ<=a₀.size)(h1:1<=n)(yK:n<=bQ)(hB:Af a₀ kd lo gX st)
  (hs:Ng key (arrOf st) lo (lo+n)) (h:∀m aE,Af a₀ kd lo gX aE->1<=m->m<=bQ->Sg key (arrOf aE) lo (lo+m)->Q (some m) aE) :
  wpS (model prog w) A E s (qg lo n bQ) Q st:=by
 unfold qg
 have hsz:lo+n<=(arrOf st).size:=by rw[hB.size];omega
 refine wpS_bind (wpS_reverse ?_)
 have fN:=hB.rev (i:=lo) (j:=lo+n) (Je _) (by omega)
 refine wpS_bind (yg hL hn h1 yK fN ?_ fun m hm1 hm2 hsm _=>wpS_pure (h m _ fN (by omega) hm2 hsm))
 intro i j hl fq hj
 show ky key (mirror (arrOf st) lo (lo+n) ((lo+n-lo) / 2)) i<=ky key (mirror (arrOf st) lo (lo+n) ((lo+n-lo) / 2)) j
 rw[i0 hsz,i0 hsz,if_pos (by omega),if_pos (by omega)]
 exact hs _ _ (by omega) (Nat.sub_le_sub_left fq _) (by omega)
theorem A8 {gX st:SortSt}{lo n bQ:Nat}{Q:DescSt->SortSt->Prop}(hL:iz prog w A E s a₀ key kd)(hn:lo+bQ<=a₀.size)(h1:1<=n)(yK:n<=bQ)(hB:Af a₀ kd lo gX st)
  (hs:Ng key (arrOf st) lo (lo+n))
  (h:∀m neq aE,Af a₀ kd lo gX aE->n<=m->m<=bQ->Ng key (arrOf aE) lo (lo+m)->neq+1<=m->(∀i,lo+m-(neq+1)<=i->i<lo+m->ky key (arrOf aE) i=ky key (arrOf aE) (lo+m-1))->Q (none,m,neq) aE) :
  wpS (model prog w) A E s (tO lo n bQ) Q st:=by
 unfold tO
 refine wpS_forRange (I:=fun x c aE=>∃neq,c=(none,x,neq)/\Af a₀ kd lo gX aE/\Ng key (arrOf aE) lo (lo+x)/\neq+1<=x /\
   (∀i,lo+x-(neq+1)<=i->i<lo+x->ky key (arrOf aE) i=ky key (arrOf aE) (lo+x-1))) ?step ?fin ⟨0,rfl,hB,hs,by omega,fun i h1 h2=>congrArg (ky key _) (Nat.le_antisymm (Y1 h2) h1)⟩
 case fin=>
  intro c aE
  refine ae.go ?_
  rintro neq rfl fN hs' hq he
  rw[Nat.max_eq_right yK] at hs' hq he ⊢
  exact h bQ neq aE fN yK (Je _) hs' hq he
 case step=>
  intro x c aE hax Gr
  refine ae.go ?_
  rintro neq rfl fN hs' hq he
  dsimp only
  have hsz:lo+x<=(arrOf aE).size:=by rw[fN.size];omega
  have lx:lo+x-1<lo+x:=by omega
  refine wpS_bind (fN.lt hL (by omega) (by omega) ?_)
  by_cases hless:ky key (arrOf aE) (lo+x)<ky key (arrOf aE) (lo+x-1)
  ·simp -iota only [hless,decide_true,if_true]
   have my:∀xs:Array Keyed,(∀k,ky key xs k=ky key (arrOf aE) k)->Ng key xs lo (lo+(x+1)):=by
    intro xs hk i j hl fq hj
    rw[hk,hk]
    by_cases hjx:j<lo+x
    ·exact hs' i j hl fq hjx
    ·have w4:j=lo+x:=by omega
     subst w4
     by_cases gP:i=lo+x
     ·subst gP;exact Yk _
     ·exact Int.le_trans (Yo hless) (hs' i (lo+x-1) hl (Y1 (Uq fq gP)) lx)
   by_cases hneq:neq>0
   ·rw[if_pos hneq]
    refine wpS_bind (wpS_reverse (wpS_pure ⟨0,rfl,fN.rev (by omega) (by omega),my _ (cB hsz he),by omega,fun i h1 h2=>congrArg (ky key _) (Nat.le_antisymm (Y1 h2) h1)⟩))
   ·rw[if_neg hneq]
    exact wpS_pure ⟨0,rfl,fN,my _ (fun _=>rfl),by omega,fun i h1 h2=>congrArg (ky key _) (Nat.le_antisymm (Y1 h2) h1)⟩
  ·simp -iota only [hless,decide_false,J9,if_false]
   refine wpS_bind (fN.lt hL (by omega) (by omega) ?_)
   by_cases hlarger:ky key (arrOf aE) (lo+x-1)<ky key (arrOf aE) (lo+x)
   ·simp -iota only [hlarger,decide_true,if_true]
    exact wpS_pure (h x neq aE fN hax (by omega) hs' hq he)
   ·simp -iota only [hlarger,decide_false,J9,if_false]
    have Gu:ky key (arrOf aE) (lo+x)=ky key (arrOf aE) (lo+x-1):=by omega
    refine wpS_pure ⟨neq+1,rfl,fN,fun i j hl fq hj =>?_,by omega,fun i h1 h2 =>?_⟩
    ·by_cases hjx:j<lo+x
     ·exact hs' i j hl fq hjx
     ·have w4:j=lo+x:=by omega
      subst w4
      by_cases gP:i=lo+x
      ·subst gP;exact Yk _
      ·rw[Gu];exact hs' i (lo+x-1) hl (Y1 (Uq fq gP)) lx
    ·rw[show lo+(x+1)-1=lo+x from Nat.add_sub_cancel (lo+x) 1]
     by_cases hix:i=lo+x
     ·subst hix;rfl
     ·rw[Gu];exact he i (Jr (Yu (Nat.succ_sub_succ (lo+x) (neq+1)).symm) h1) (Uq (Wh h2) hix)
theorem qc {gX st:SortSt}{lo n bQ:Nat}{Q:Option Nat->SortSt->Prop}(hL:iz prog w A E s a₀ key kd)(hn:lo+bQ<=a₀.size)(yK:n+1<=bQ)(hB:Af a₀ kd lo gX st)
  (hs:Ng key (arrOf st) lo (lo+(n+1))) (h:∀m aE,Af a₀ kd lo gX aE->1<=m->m<=bQ->Sg key (arrOf aE) lo (lo+m)->Q (some m) aE) :
  wpS (model prog w) A E s (pN lo n bQ) Q st:=by
 unfold pN
 refine wpS_bind (wpS_lift (wpAny_rule ⟨rfl,?_⟩))
 refine wpS_bind (A8 hL hn (by omega) yK hB hs fun m neq aE fN hm1 hm2 hs' hq he =>?_)
 dsimp only
 have hsz:lo+m<=(arrOf aE).size:=by rw[fN.size];omega
 by_cases hneq:neq>0
 ·rw[if_pos hneq]
  refine wpS_bind (wpS_reverse (tQ hL hn (by omega) hm2 (fN.rev (by omega) (by omega)) ?_ h))
  intro i j hl fq hj
  show ky key (mirror (arrOf aE) _ _ _) j<=ky key (mirror (arrOf aE) _ _ _) i
  rw[cB hsz he,cB hsz he]
  exact hs' i j hl fq hj
 ·rw[if_neg hneq]
  exact tQ hL hn (by omega) hm2 fN hs' h
theorem wX {gX st:SortSt}{lo bQ:Nat}{Q:Option Nat->SortSt->Prop}(hL:iz prog w A E s a₀ key kd)(hn:lo+bQ<=a₀.size)(h1:1<=bQ)(hB:Af a₀ kd lo gX st)
  (h:∀m aE,Af a₀ kd lo gX aE->1<=m->m<=bQ->Sg key (arrOf aE) lo (lo+m)->Q (some m) aE) :
  wpS (model prog w) A E s (countRun' lo bQ) Q st:=by
 rw[uK]
 refine wpS_bind (yg hL hn (Je 1) h1 hB (fun i j hl fq hj=>by rw[show i=j by omega];exact Yk _) fun n hn1 CY hsn hor =>?_)
 dsimp only
 by_cases yK:n=bQ
 ·rw[if_pos (by simpa using yK)]
  exact wpS_pure (h n st hB hn1 CY hsn)
 ·rw[if_neg (by simpa using yK)]
  have cF:ky key (arrOf st) (lo+n)<ky key (arrOf st) (lo+n-1):=hor.resolve_left yK
  by_cases hgt:n>1
  ·rw[if_pos hgt]
   refine wpS_bind (hB.lt hL (by omega) (by omega) ?_)
   by_cases hrose:ky key (arrOf st) lo<ky key (arrOf st) (lo+n-1)
   ·simp -iota only [hrose,decide_true,if_true]
    exact wpS_pure (h n st hB hn1 CY hsn)
   ·simp -iota only [hrose,decide_false,J9,if_false]
    have hsz:lo+n<=(arrOf st).size:=by rw[hB.size];omega
    have gQ:∀k,lo<=k->k<lo+n->ky key (arrOf st) k=ky key (arrOf st) (lo+n-1):=by
     intro k hl hk
     have a1:=hsn lo k (by omega) hl hk
     have a2:=hsn k (lo+n-1) hl (by omega) (by omega)
     omega
    refine wpS_bind (wpS_reverse (qc hL hn (by omega) (hB.rev (by omega) (by omega)) ?_ h))
    intro i j hl fq hj
    show ky key (mirror (arrOf st) _ _ _) j<=ky key (mirror (arrOf st) _ _ _) i
    rw[cB hsz gQ,cB hsz gQ]
    by_cases hjn:j<lo+n
    ·rw[gQ i hl (by omega),gQ j (by omega) hjn];exact Yk _
    ·have w4:j=lo+n:=by omega
     subst w4
     by_cases gP:i=lo+n
     ·subst gP;exact Yk _
     ·rw[gQ i hl (by omega)];exact Yo cF
  ·rw[if_neg hgt]
   have I0:n=1:=by omega
   subst I0
   refine qc hL hn (by omega) hB ?_ h
   intro i j hl fq hj
   by_cases gP:i=j
   ·subst gP;exact Yk _
   ·have Cn:i=lo:=by omega
    have OD:j=lo+1:=by omega
    subst Cn;subst OD
    exact Yo cF
theorem me {xs:Array Keyed}{src d:Nat}(hs:src<xs.size)(hd:d<=src)(k:Nat):
  ky key (bubble xs src d) k=if k=src-d then ky key xs src else if src-d<k/\k<=src then ky key xs (k-1) else ky key xs k:=by
 have e:=getElem?_bubble hs d hd k
 by_cases h1:k=src-d
 ·rw[if_pos h1] at e ⊢;exact di e
 ·rw[if_neg h1] at e ⊢
  by_cases h2:src-d<k/\k<=src
  ·rw[if_pos h2] at e ⊢;exact di e
  ·rw[if_neg h2] at e ⊢;exact di e
theorem DG {gX st:SortSt}{lo n ok:Nat}{Q:Bool->SortSt->Prop}(hL:iz prog w A E s a₀ key kd)(hn:lo+n<=a₀.size)(bb:ok<=n)(hB:Af a₀ kd lo gX st)(hs:Sg key (arrOf st) lo (lo+ok))
  (h:∀aE,Af a₀ kd lo gX aE->Sg key (arrOf aE) lo (lo+n)->Q true aE):wpS (model prog w) A E s (binarySort' lo n ok) Q st:=by
 rw[binarySort'_eq]
 refine wpS_bind (wpS_mono (wpS_forRange (I:=fun k c aE=>c=(none,())/\Af a₀ kd lo gX aE/\Sg key (arrOf aE) lo (lo+min k n))
  (Q:=fun c aE=>c=(none,())/\Af a₀ kd lo gX aE/\Sg key (arrOf aE) lo (lo+n)) ?step ?fin ?init) ?post)
 case post=>
  intro c aE
  refine ae.go ?_
  rintro rfl fN hs'
  exact wpS_pure (h aE fN hs')
 case init=>
  refine⟨rfl,hB,fun i j hl fq hj =>?_⟩
  by_cases h1:ok=0
  ·subst h1
   have IV:j<lo+1:=Jt hj (U4 (Nat.min_le_left _ _) _)
   have:i=j:=Nat.le_antisymm fq (Jr (Wh IV) hl)
   subst this;exact Yk _
  ·exact hs i j hl fq (Jt hj (U4 (Jr (Nat.min_le_left _ _) (Yu (Nat.max_eq_left (Nat.pos_of_ne_zero h1)))) _))
 case fin=>
  intro c aE
  refine ae.go ?_
  rintro hc fN hs'
  refine⟨hc,fN,?_⟩
  rwa[Nat.min_eq_right (Nat.le_max_right _ _)] at hs'
 case step=>
  intro k c aE hak hkn
  refine ae.go ?_
  rintro rfl fN hs'
  rw[Yx (Uy hkn)] at hs'
  have hk:lo+k<a₀.size:=by omega
  refine wpS_bind (wpS_mono (wpS_forRange (I:=fun x c st''=>st''=aE/\∃l r,c=(none,l,r)/\l<=r/\r<=k/\r+x<=k+l /\
    (∀i,i<l->ky key (arrOf aE) (lo+i)<=ky key (arrOf aE) (lo+k))/\(∀i,r<=i->i<k->ky key (arrOf aE) (lo+k)<ky key (arrOf aE) (lo+i)))
   (Q:=fun c st''=>st''=aE/\∃l r,c=(none,l,r)/\l<=k /\
    (∀i,i<l->ky key (arrOf aE) (lo+i)<=ky key (arrOf aE) (lo+k))/\(∀i,l<=i->i<k->ky key (arrOf aE) (lo+k)<ky key (arrOf aE) (lo+i))) ?istep ?ifin ?iinit) ?ipost)
  case iinit=>exact⟨rfl,0,k,rfl,by omega,by omega,by omega,fun i hi=>by omega,fun i h1 h2=>by omega⟩
  case ifin=>
   intro c st''
   refine ae.go ?_
   rintro rfl l r rfl hlr hrk hm yF hhi
   have:l=r:=by omega
   subst this
   exact⟨rfl,l,l,rfl,hrk,yF,hhi⟩
  case istep=>
   intro x c st'' _ hxk
   refine ae.go ?_
   rintro rfl l r rfl hlr hrk hm yF hhi
   dsimp only
   by_cases hge:l>=r
   ·rw[if_pos hge]
    have:l=r:=by omega
    subst this
    exact wpS_pure ⟨rfl,l,l,rfl,hrk,yF,hhi⟩
   ·rw[if_neg hge]
    have y1:l<=(l+r) / 2:=by omega
    have y2:(l+r) / 2<r:=by omega
    generalize (l+r) / 2=m at y1 y2 ⊢
    refine wpS_bind (fN.lt hL hk (by omega) ?_)
    by_cases hless:ky key (arrOf st'') (lo+k)<ky key (arrOf st'') (lo+m)
    ·simp -iota only [hless,decide_true,if_true]
     refine wpS_pure ⟨rfl,l,m,rfl,y1,by omega,by omega,yF,fun i h1 h2 =>?_⟩
     exact Int.lt_of_lt_of_le hless (hs' _ _ (Uw _ _) (by omega) (by omega))
    ·simp -iota only [hless,decide_false,J9,if_false]
     refine wpS_pure ⟨rfl,m+1,r,rfl,y2,hrk,by omega,fun i h1 =>?_,hhi⟩
     exact Int.le_trans (hs' (lo+i) (lo+m) (Uw _ _) (by omega) (by omega)) (Int.not_lt.mp hless)
  case ipost=>
   intro c st''
   refine ae.go ?_
   rintro rfl l r rfl hlk yF hhi
   show wpS _ _ _ _ (do moveDown' (lo+k) (lo+l);pure (ForInStep.yield (none,()))) _ _
   rw[moveDown'_eq]
   have DW:lo+k<(arrOf st'').size:=by rw[fN.size];exact hk
   refine wpS_bind (wpS_modify (wpS_pure ⟨rfl,fN.set (bubble_perm _ _ _) (fun i hi =>?_),?_⟩))
   ·rw[getElem?_bubble DW _ (Nat.sub_le _ _),Nat.sub_sub_self (U4 hlk lo),if_neg (by omega),if_neg (by omega)]
   rw[Yx hkn]
   have B4:∀i,lo<=i->i<lo+l->ky key (arrOf st'') i<=ky key (arrOf st'') (lo+k):=fun i h1 h2=>by
    have:=yF (i-lo) (Nat.sub_lt_left_of_lt_add h1 h2);rwa[Y7 h1] at this
   have B7:∀i,lo+l<=i->i<lo+k->ky key (arrOf st'') (lo+k)<ky key (arrOf st'') i:=fun i h1 h2=>by
    have h0:=Jr (Uw lo l) h1;have:=hhi (i-lo) (Nat.le_sub_of_add_le' h1) (Nat.sub_lt_left_of_lt_add h0 h2);rwa[Y7 h0] at this
   intro i j hl fq hj
   show ky key (bubble (arrOf st'') (lo+k) (lo+k-(lo+l))) i<=ky key (bubble (arrOf st'') (lo+k) (lo+k-(lo+l))) j
   have hj:j<lo+k+1:=hj
   have hy:lo+l<=lo+k:=U4 hlk _
   have h0:lo<=lo+l:=Uw _ _
   rw[me DW (Nat.sub_le _ _),me DW (Nat.sub_le _ _),Nat.sub_sub_self hy]
   clear yF hhi h hB hs hn bb hak hkn hk hlk hL
   generalize lo+l=y at h0 hy B4 B7 ⊢
   generalize lo+k=z at hy B4 B7 hs' hj DW ⊢
   repeat' split
   all_goals first
    | (exfalso;omega)
    | exact Yk _
    | exact B4 _ (by omega) (by omega)
    | exact Yo (B7 _ (by omega) (by omega))
    | exact hs' _ _ (by omega) (Nat.sub_le_sub_right fq 1) (by omega)
    | exact hs' _ _ (by omega) (by omega) (by omega)
end
noncomputable def ue:Bool->Keyed->Array Keyed->Nat->Nat->Nat->StateT SortSt Sem (Option Nat):=sortPriv% PySem.Builtin.gallop
noncomputable def og (left:Bool)(k:Keyed)(arr:Array Keyed)(base i:Nat):StateT SortSt Sem (Option Bool):=do
 let x <-elem' arr (base+i)
 if left then lt' x k else return (<-lt' k x).map (!·)
section
variable {prog:Program}{w:World}{A:Around}{E:Value->Shared->Prop}{s:Shared}{a₀:Array Keyed}{key:Keyed->Int}{kd:SortKind}
noncomputable def gW (left:Bool)(k x:Int):Bool:=if left then decide (x<k) else !decide (k<x)
theorem nP {left:Bool}{k:Keyed}{arr:Array Keyed}{base i:Nat}{st:SortSt}{Q:Option Bool->SortSt->Prop}(hL:iz prog w A E s a₀ key kd)(iy:kindOf st=kd)(ha:∀p∈arr.toList,p∈a₀.toList)(hk:k∈a₀.toList)
  (hi:base+i<arr.size) (h:Q (some (gW left (key k) (ky key arr (base+i)))) st):wpS (model prog w) A E s (og left k arr base i) Q st:=by
 unfold og
 refine wpS_bind (gH hi fun p e =>?_)
 have hp:=ha p (Array.mem_toList_iff.mpr (Array.mem_of_getElem? e))
 rw[df e] at h
 cases left with
 | true=>exact hL _ _ _ _ hp hk iy h
 | false=>
  refine wpS_bind (m:=lt' k p) (hL _ _ _ _ hk hp iy ?_)
  exact wpS_pure h
theorem xU {left:Bool}{k x y:Int}(h:x<=y)(hy:gW left k y=true):gW left k x=true:=by
 unfold gW at *
 cases left
 ·simp at hy ⊢;omega
 ·simp at hy ⊢;omega
def Mz (left:Bool)(k:Int)(key:Keyed->Int)(arr:Array Keyed)(base n r:Nat):Prop:=
 r<=n/\(∀i,i<r->gW left k (ky key arr (base+i))=true)/\∀i,r<=i->i<n->gW left k (ky key arr (base+i))=false
theorem rl {α γ:Type}{m:StateT SortSt Sem α}{Q: α->SortSt->Prop}{st:SortSt}(V: γ->StateT SortSt Sem α)(G: γ->Prop)(hV:∀z,G z->wpS (model prog w) A E s (V z) Q st)
  (hm:(∀z,G z->wpS (model prog w) A E s (V z) Q st)->wpS (model prog w) A E s m Q st):wpS (model prog w) A E s m Q st:=hm hV
section
variable {α:Type}{c:Prop}[Decidable c]{m n:StateT SortSt Sem α}{Q: α->SortSt->Prop}{st:SortSt}
theorem IM (h:c)(hm:wpS (model prog w) A E s m Q st):wpS (model prog w) A E s (if c then m else n) Q st:=by rw[if_pos h];exact hm
theorem HU (h:¬c)(hm:wpS (model prog w) A E s n Q st):wpS (model prog w) A E s (if c then m else n) Q st:=by rw[if_neg h];exact hm
theorem l4 (h1:c->wpS (model prog w) A E s m Q st)(h2:¬c->wpS (model prog w) A E s n Q st):wpS (model prog w) A E s (if c then m else n) Q st:=by
 split
 ·exact h1 ‹_›
 ·exact h2 ‹_›
theorem nO {x y:Nat}(h1:x=y->wpS (model prog w) A E s m Q st)(h2:¬x=y->wpS (model prog w) A E s n Q st):wpS (model prog w) A E s (if (x==y)=true then m else n) Q st:=
 l4 (fun z=>h1 (by simpa using z)) fun z=>h2 (by simpa using z)
end
theorem jb {left:Bool}{k:Keyed}{arr:Array Keyed}{base n hint:Nat}{st:SortSt}{Q:Option Nat->SortSt->Prop}(hL:iz prog w A E s a₀ key kd)(iy:kindOf st=kd)(ha:∀p∈arr.toList,p∈a₀.toList)(hk:k∈a₀.toList)
  (hs:Sg key arr base (base+n)) (hn:base+n<=arr.size) (hh:hint<n) (h:∀r,Mz left (key k) key arr base n r->Q (some r) st):wpS (model prog w) A E s (ue left k arr base n hint) Q st:=by
 have up:∀i j,i<=j->j<n->gW left (key k) (ky key arr (base+j))=true->gW left (key k) (ky key arr (base+i))=true:=fun i j fq hj=>xU (hs _ _ (by omega) (by omega) (by omega))
 have dn:∀i j,i<=j->j<n->gW left (key k) (ky key arr (base+i))=false->gW left (key k) (ky key arr (base+j))=false:=fun i j fq hj e=>by
  cases e2:gW left (key k) (ky key arr (base+j)) with
  | false=>rfl
  | true=>rw[up i j fq hj e2] at e;cases e
 refine wpS_bind (m:=og left k arr base hint) (nP hL iy ha hk (by omega) ?_)
 dsimp -zeta only
 extract_lets jp mo1 mo2
 refine rl (fun z:Nat×Nat×Nat×Nat=>jp () z.1 z.2.1 z.2.2.1 z.2.2.2) (fun z=>(z.2.2.1<=z.2.2.2/\z.2.2.2<=n)/\(∀i,i<z.2.2.1->gW left (key k) (ky key arr (base+i))=true)/\(∀i,z.2.2.2<=i->i<n->gW left (key k) (ky key arr (base+i))=false)) (fun z hz =>?_) fun H =>?_
 ·obtain⟨z1,z2,lo0,Cn⟩:=z
  refine wpS_bind (wpS_mono (wpS_forRange (I:=fun x c aE=>aE=st/\∃lo hi,c=(none,lo,hi)/\lo<=hi/\hi<=n/\hi+x<=n+lo/\(∀i,i<lo->gW left (key k) (ky key arr (base+i))=true)/\(∀i,hi<=i->i<n->gW left (key k) (ky key arr (base+i))=false))
   (Q:=fun c aE=>aE=st/\∃r,c=(none,r,r)/\Mz left (key k) key arr base n r) ?stepA ?finA ⟨rfl,lo0,Cn,rfl,hz.1.1,hz.1.2,Jr hz.1.2 (Uw _ _),hz.2.1,hz.2.2⟩) ?postA)
  case postA=>
   intro c aE
   refine ae.go ?_
   rintro rfl r rfl g
   exact wpS_pure (h r g)
  case finA=>
   intro c aE
   refine ae.go ?_
   rintro rfl lo hi rfl b1 b2 b3 b4 b5
   have:lo=hi:=by omega
   subst this
   exact⟨rfl,lo,rfl,b2,b4,b5⟩
  case stepA=>
   intro x c aE _ hx
   refine ae.go ?_
   rintro rfl lo hi rfl b1 b2 b3 b4 b5
   dsimp only
   refine l4 (fun hge =>?_) fun hge =>?_
   ·have:lo=hi:=by omega
    subst this
    exact wpS_pure ⟨rfl,lo,rfl,b2,b4,b5⟩
   ·have y1:lo<=lo+(hi-lo) / 2:=Uw _ _
    have y2:lo+(hi-lo) / 2<hi:=by omega
    generalize lo+(hi-lo) / 2=m at y1 y2 ⊢
    refine wpS_bind (nP hL iy ha hk (by omega) ?_)
    cases e:gW left (key k) (ky key arr (base+m)) with
    | true=>
     dsimp only
     refine IM rfl ?_
     exact wpS_pure ⟨rfl,_,_,rfl,y2,b2,by omega,fun i gP=>up i _ (Wh gP) (by omega) e,b5⟩
    | false=>
     dsimp only
     refine HU Ju ?_
     exact wpS_pure ⟨rfl,_,_,rfl,y1,by omega,by omega,b4,fun i i1 i2=>dn _ i i1 i2 e⟩
 have eN:hint+(n-hint)=n:=Y7 (Uy hh)
 refine l4 (fun e =>?_) fun e =>?_
 ·refine wpS_bind (wpS_mono (wpS_forRange (I:=fun x c aE=>aE=st/\∃last ofs,c=(none,last,ofs)/\last<ofs/\x+1<=ofs/\last<n-hint/\gW left (key k) (ky key arr (base+(hint+last)))=true)
   (Q:=fun c aE=>aE=st/\∃last ofs,c=(none,last,ofs)/\last<ofs/\last<n-hint/\gW left (key k) (ky key arr (base+(hint+last)))=true/\(n-hint<=ofs∨gW left (key k) (ky key arr (base+(hint+ofs)))=false)) ?step ?fin ⟨rfl,0,1,rfl,by omega,by omega,by omega,e⟩) ?post)
  case post=>
   intro c eQ
   refine ae.go ?_
   rintro rfl last ofs rfl c1 c2 c3 c4
   refine H (last,ofs,hint+last+1,hint+min ofs (n-hint)) ⟨⟨U4 (Nat.le_min.mpr ⟨c1,c2⟩) hint,Jr (U4 (Nat.min_le_right _ _) _) (Yu eN)⟩,fun i hi=>up i (hint+last) (Wh hi) (Nat.lt_of_lt_of_eq (Nat.add_lt_add_left c2 hint) eN) c3,fun i i1 i2 =>?_⟩
   have i1:hint+min ofs (n-hint)<=i:=i1
   rcases Nat.le_total (n-hint) ofs with t|t
   ·rw[Nat.min_eq_right t,eN] at i1
    exact absurd i2 (Nat.not_lt.mpr i1)
   ·rw[Yx t] at i1
    rcases c4 with c4|c4
    ·rw[Nat.le_antisymm t c4,eN] at i1
     exact absurd i2 (Nat.not_lt.mpr i1)
    ·exact dn (hint+ofs) i i1 i2 c4
  case fin=>
   intro c aE
   refine ae.go ?_
   rintro rfl last ofs rfl c1 c2 c3 c4
   exact⟨rfl,last,ofs,rfl,c1,c3,c4,.inl (by omega)⟩
  case step=>
   intro x c aE _ hx
   refine ae.go ?_
   rintro rfl last ofs rfl c1 c2 c3 c4
   dsimp only[mo1]
   refine l4 (fun hge=>wpS_pure ⟨rfl,last,ofs,rfl,c1,c3,c4,.inl hge⟩) fun hge =>?_
   refine wpS_bind (nP hL iy ha hk (by omega) ?_)
   cases e2:gW left (key k) (ky key arr (base+(hint+ofs))) with
   | true=>
    exact wpS_pure ⟨rfl,ofs,2*ofs+1,rfl,by omega,by omega,by omega,e2⟩
   | false=>
    exact wpS_pure ⟨rfl,last,ofs,rfl,c1,c3,c4,.inr e2⟩
 ·have e:=Ur.mpr e
  refine wpS_bind (wpS_mono (wpS_forRange (I:=fun x c aE=>aE=st/\∃last ofs,c=(none,last,ofs)/\last<ofs/\x+1<=ofs/\last<hint+1/\gW left (key k) (ky key arr (base+(hint-last)))=false)
   (Q:=fun c aE=>aE=st/\∃last ofs,c=(none,last,ofs)/\last<ofs/\last<hint+1/\gW left (key k) (ky key arr (base+(hint-last)))=false/\(hint+1<=ofs∨(ofs<=hint/\gW left (key k) (ky key arr (base+(hint-ofs)))=true))) ?step ?fin ⟨rfl,0,1,rfl,by omega,by omega,by omega,e⟩) ?post)
  case post=>
   intro c eQ
   refine ae.go ?_
   rintro rfl last ofs rfl c1 c2 c3 c4
   refine H (last,ofs,hint+1-min ofs (hint+1),hint-last) ⟨⟨?_,Jr (Nat.sub_le _ _) (Uy hh)⟩,fun i hi =>?_,fun i i1 i2=>dn (hint-last) i i1 i2 c3⟩
   ·show hint+1-min ofs (hint+1)<=hint-last
    rw[<-Nat.succ_sub_succ hint last]
    exact Nat.sub_le_sub_left (Nat.le_min.mpr ⟨c1,c2⟩) _
   have hi:i<hint+1-min ofs (hint+1):=hi
   rcases c4 with c4|⟨c4,c5⟩
   ·rw[Nat.min_eq_right c4,Nat.sub_self] at hi
    exact absurd hi (Nat.not_lt_zero _)
   ·rw[Yx (Nat.le_succ_of_le c4),Nat.succ_sub c4] at hi
    exact up i (hint-ofs) (Wh hi) (Ub (Nat.sub_le _ _) hh) c5
  case fin=>
   intro c aE
   refine ae.go ?_
   rintro rfl last ofs rfl c1 c2 c3 c4
   exact⟨rfl,last,ofs,rfl,c1,c3,c4,.inl (by omega)⟩
  case step=>
   intro x c aE _ hx
   refine ae.go ?_
   rintro rfl last ofs rfl c1 c2 c3 c4
   dsimp only[mo2]
   refine l4 (fun hge=>wpS_pure ⟨rfl,last,ofs,rfl,c1,c3,c4,.inl hge⟩) fun hge =>?_
   refine wpS_bind (nP hL iy ha hk (by omega) ?_)
   cases e2:gW left (key k) (ky key arr (base+(hint-ofs))) with
   | true=>
    exact wpS_pure ⟨rfl,last,ofs,rfl,c1,c3,c4,.inr ⟨by omega,e2⟩⟩
   | false=>
    exact wpS_pure ⟨rfl,ofs,2*ofs+1,rfl,by omega,by omega,by omega,e2⟩
end
noncomputable def Bi:Nat->StateT SortSt Sem Unit:=sortPriv% PySem.Builtin.setMinGallop
noncomputable def Bb (st:SortSt)(g:Nat):SortSt:=SortSt.mk' (kindOf st) (arrOf st) (pendingOf st) g (failedOf st)
noncomputable def wD:Array Keyed->Array Keyed->StateT SortSt Sem (Array Keyed):=sortPriv% PySem.Builtin.mergeLo
section
variable {prog:Program}{w:World}{A:Around}{E:Value->Shared->Prop}{s:Shared}{a₀:Array Keyed}{key:Keyed->Int}{kd:SortKind}
def Sl (key:Keyed->Int)(l:List Keyed):Prop:=l.Pairwise fun x y=>key x<=key y
structure Kp (st aE:SortSt):Prop where
 kind:kindOf aE=kindOf st
 arr:arrOf aE=arrOf st
 pend:pendingOf aE=pendingOf st
 failed:failedOf aE=failedOf st
theorem Kp.refl (st:SortSt):Kp st st:=⟨rfl,rfl,rfl,rfl⟩
theorem Kp.Qx {st aE:SortSt}(h:Kp st aE)(g:Nat):Kp st (Bb aE g):=⟨h.kind,h.arr,h.pend,h.failed⟩
theorem ix {xs:Array Keyed}{i:Nat}{x:Keyed}(h:xs.toList[i]? = some x):xs[i]? = some x:=by rw[<-h,Ua]
theorem gA {xs:Array Keyed}{i:Nat}{x:Keyed}(h:x∈xs.toList.drop i):∃j,i<=j/\j<xs.size/\ky key xs j=key x:=by
 obtain⟨j,hj⟩:=U3.mp h
 rw[List.getElem?_drop] at hj
 have hl:=(Jx.mp hj).1
 rw[Jv] at hl
 exact⟨i+j,by omega,hl,df (ix hj)⟩
theorem fQ {xs:Array Keyed}{i:Nat}{x:Keyed}(h:x∈xs.toList.take i):∃j,j<i/\j<xs.size/\ky key xs j=key x:=by
 obtain⟨j,hj⟩:=U3.mp h
 have hl:=(Jx.mp hj).1
 rw[J1,Jv] at hl
 rw[List.getElem?_take_of_lt (by omega)] at hj
 exact⟨j,by omega,by omega,df (ix hj)⟩
theorem m8 {xs:Array Keyed}{i k:Nat}{x:Keyed}(h:x∈(xs.toList.drop i).take k):∃j,i<=j/\j<i+k/\j<xs.size/\ky key xs j=key x:=by
 obtain⟨j,hj⟩:=U3.mp h
 have hl:=(Jx.mp hj).1
 rw[J1,Ui,Jv] at hl
 rw[List.getElem?_take_of_lt (by omega),List.getElem?_drop] at hj
 exact⟨i+j,by omega,by omega,by omega,df (ix hj)⟩
theorem DA {xs:Array Keyed}{i:Nat}{p:Keyed}(h:xs[i]? = some p):(xs.toList.drop i).take 1=[p]:=by
 rw[<-Ua] at h
 obtain⟨hl,e⟩:=Jx.mp h
 rw[Yy hl,e];rfl
theorem gU {xs:Array Keyed}(h:Sg key xs 0 xs.size):Sl key xs.toList:=by
 refine Ya.mpr fun i j hi hj fq =>?_
 rw[Jv] at hi hj
 have:=h i j (by omega) (by omega) hj
 rwa[df (getElem?_pos xs i hi),df (getElem?_pos xs j hj)] at this
structure Mg (key:Keyed->Int)(a b:Array Keyed)(out:List Keyed)(ia ib:Nat):Prop where
 ha:ia<=a.size
 hb:ib<=b.size
 sa:Sg key a 0 a.size
 sb:Sg key b 0 b.size
 perm:(out++(a.toList.drop ia++b.toList.drop ib)).Perm (a.toList++b.toList)
 so:Sl key out
 la:∀x∈out,∀y∈a.toList.drop ia,key x<=key y
 lb:∀x∈out,∀y∈b.toList.drop ib,key x<=key y
theorem Mg.swap {a b:Array Keyed}{out:List Keyed}{ia ib:Nat}(h:Mg key a b out ia ib):Mg key b a out ib ia:=
 ⟨h.hb,h.ha,h.sb,h.sa,((Yl).append_left out).trans (h.perm.trans Yl),h.so,h.lb,h.la⟩
theorem Mg.tA {a b:Array Keyed}{out:List Keyed}{ia ib k:Nat}(h:Mg key a b out ia ib)(hk:ia+k<=a.size)(q:∀j,ia<=j->j<ia+k->ky key a j<=ky key b ib):Mg key a b (out++(a.toList.drop ia).take k) (ia+k) ib:=by
 have e:a.toList.drop ia=(a.toList.drop ia).take k++a.toList.drop (ia+k):=by
  rw[<-List.drop_drop,Ye]
 have sd:Sl key (a.toList.drop ia):=(gU h.sa).sublist (Wi _ _)
 rw[e] at sd
 obtain⟨s1,s2,s3⟩:=J8.mp sd
 refine⟨hk,h.hb,h.sa,h.sb,?_,?_,?_,?_⟩
 ·have p:=h.perm
  rw[e] at p
  rw[Ul] at p ⊢
  exact p
 ·refine J8.mpr ⟨h.so,s1,fun x hx y hy=>h.la x hx y (Y2 hy)⟩
 ·intro x hx y hy
  rcases Jh.mp hx with hx|hx
  ·exact h.la x hx y (by rw[e];exact Ji _ hy)
  ·exact s3 x hx y hy
 ·intro x hx y hy
  rcases Jh.mp hx with hx|hx
  ·exact h.lb x hx y hy
  ·obtain⟨j,j1,j2,j3,e1⟩:=m8 (key:=key) hx
   obtain⟨i,i1,i2,e2⟩:=gA (key:=key) hy
   have:=q j j1 j2
   have:=h.sb ib i (by omega) i1 i2
   omega
theorem Mg.tB {a b:Array Keyed}{out:List Keyed}{ia ib k:Nat}(h:Mg key a b out ia ib)(hk:ib+k<=b.size)(q:∀j,ib<=j->j<ib+k->ky key b j<=ky key a ia):Mg key a b (out++(b.toList.drop ib).take k) ia (ib+k):=
 (h.swap.tA hk q).swap
theorem Mg.mJ {a b out:Array Keyed}{ia ib:Nat}{p:Keyed}(h:Mg key a b out.toList ia ib)(e:a[ia]? = some p)(hk:ia<a.size)(q:ky key a ia<=ky key b ib):Mg key a b (out.push p).toList (ia+1) ib:=by
 rw[U9,<-DA e]
 exact h.tA hk fun j j1 j2=>by rw[show j=ia by omega];exact q
theorem Mg.md {a b out:Array Keyed}{ia ib:Nat}{p:Keyed}(h:Mg key a b out.toList ia ib)(e:b[ib]? = some p)(hk:ib<b.size)(q:ky key b ib<=ky key a ia):Mg key a b (out.push p).toList ia (ib+1):=by
 rw[U9,<-DA e]
 exact h.tB hk fun j j1 j2=>by rw[show j=ib by omega];exact q
theorem ext_toList {xs:Array Keyed}{i k:Nat}(h:i+k<=xs.size):(xs.extract i (i+k)).toList=(xs.toList.drop i).take k:=by
 rw[Array.toList_extract,List.extract_eq_take_drop]
 congr 1;omega
theorem jR {xs:Array Keyed}{i:Nat}:(xs.extract i xs.size).toList=xs.toList.drop i:=by
 rw[Array.toList_extract,List.extract_eq_take_drop]
 refine Yi ?_
 rw[Ui,Jv];omega
theorem Mg.Lw {a b out:Array Keyed}{ia ib k:Nat}(h:Mg key a b out.toList ia ib)(hk:ia+k<=a.size)(q:∀j,ia<=j->j<ia+k->ky key a j<=ky key b ib):Mg key a b (out++a.extract ia (ia+k)).toList (ia+k) ib:=by
 rw[Ut,ext_toList hk]
 exact h.tA hk q
theorem Mg.MT {a b out:Array Keyed}{ia ib k:Nat}(h:Mg key a b out.toList ia ib)(hk:ib+k<=b.size)(q:∀j,ib<=j->j<ib+k->ky key b j<=ky key a ia):Mg key a b (out++b.extract ib (ib+k)).toList ia (ib+k):=by
 rw[Ut,ext_toList hk]
 exact h.tB hk q
def Good (key:Keyed->Int)(a b res:Array Keyed):Prop:=res.toList.Perm (a.toList++b.toList)/\Sl key res.toList
theorem Mg.done {a b out:Array Keyed}{ia ib:Nat}(h:Mg key a b out.toList ia ib)(q:ia=a.size∨ib=b.size):Good key a b (out++a.extract ia a.size++b.extract ib b.size):=by
 unfold Good
 rw[Ut,Ut,jR,jR,Ul]
 refine⟨h.perm,J8.mpr ⟨h.so,J8.mpr ⟨(gU h.sa).sublist (Wi _ _),(gU h.sb).sublist (Wi _ _),fun x hx y hy =>?_⟩,fun x hx y hy =>?_⟩⟩
 ·obtain⟨j,j1,j2,_⟩:=gA (key:=key) hx
  obtain⟨i,i1,i2,_⟩:=gA (key:=key) hy
  omega
 ·rcases Jh.mp hy with hy|hy
  ·exact h.la x hx y hy
  ·exact h.lb x hx y hy
theorem Mg.last {a b out:Array Keyed}{ia ib:Nat}(h:Mg key a b out.toList ia ib)(e:ia+1=a.size)(q:∀j,j<b.size->ky key b j<=ky key a (a.size-1)):Good key a b (out++b.extract ib b.size++a.extract ia a.size):=by
 unfold Good
 rw[Ut,Ut,jR,jR,Ul]
 refine⟨(Yl.append_left out.toList).trans h.perm,J8.mpr ⟨h.so,J8.mpr ⟨(gU h.sb).sublist (Wi _ _),(gU h.sa).sublist (Wi _ _),fun x hx y hy =>?_⟩,fun x hx y hy =>?_⟩⟩
 ·obtain⟨j,j1,j2,e1⟩:=gA (key:=key) hx
  obtain⟨i,i1,i2,e2⟩:=gA (key:=key) hy
  have:=q j j2
  rw[show a.size-1=i by omega] at this
  omega
 ·rcases Jh.mp hy with hy|hy
  ·exact h.lb x hx y hy
  ·exact h.la x hx y hy
theorem nE {k x:Int}(h:gW false k x=true):x<=k:=by unfold gW at h;simp at h;exact h
theorem nj {k x:Int}(h:gW false k x=false):k<x:=by unfold gW at h;simp at h;exact h
theorem jS {k x:Int}(h:gW true k x=true):x<k:=by unfold gW at h;simp at h;exact h
theorem jP {k x:Int}(h:gW true k x=false):k<=x:=by unfold gW at h;simp at h;exact h
end
section
variable {prog:Program}{w:World}{A:Around}{E:Value->Shared->Prop}{s:Shared}{a₀:Array Keyed}{key:Keyed->Int}{kd:SortKind}
theorem dm {α:Type}{xs:Array Keyed}{i:Nat}{f:Keyed->StateT SortSt Sem α}{Q: α->SortSt->Prop}{st:SortSt}(hi:i<xs.size)(h:∀p,xs[i]? = some p->wpS (model prog w) A E s (f p) Q st):wpS (model prog w) A E s (elem' xs i >>= f) Q st:=wpS_bind (gH hi h)
theorem ltB {α:Type}{x y:Keyed}{f:Option Bool->StateT SortSt Sem α}{Q: α->SortSt->Prop}{st:SortSt}(hL:iz prog w A E s a₀ key kd)(hx:x∈a₀.toList)(hy:y∈a₀.toList)(hk:kindOf st=kd)(h:wpS (model prog w) A E s (f (some (decide (key x<key y)))) Q st):wpS (model prog w) A E s (lt' x y >>= f) Q st:=wpS_bind (hL _ _ _ _ hx hy hk h)
theorem jL {α:Type}{left:Bool}{k:Keyed}{arr:Array Keyed}{base n hint:Nat}{st:SortSt}{f:Option Nat->StateT SortSt Sem α}{Q: α->SortSt->Prop}(hL:iz prog w A E s a₀ key kd)(iy:kindOf st=kd)(ha:∀p∈arr.toList,p∈a₀.toList)(hk:k∈a₀.toList)
  (hs:Sg key arr base (base+n)) (hn:base+n<=arr.size) (hh:hint<n) (h:∀r,Mz left (key k) key arr base n r->wpS (model prog w) A E s (f (some r)) Q st):wpS (model prog w) A E s (ue left k arr base n hint >>= f) Q st:=wpS_bind (jb hL iy ha hk hs hn hh h)
theorem Fx {α β γ δ ε ζ:Type}{P: α × β × γ × δ × ε × ζ->Prop}(h:∀a b c d e f,P (a,b,c,d,e,f)):∀x,P x:=fun⟨a,b,c,d,e,f⟩=>h a b c d e f
theorem Gi {α β γ δ ε ζ η:Type}{P: α × β × γ × δ × ε × ζ × η->Prop}(h:∀a b c d e f g,P (a,b,c,d,e,f,g)):∀x,P x:=fun⟨a,b,c,d,e,f,g⟩=>h a b c d e f g
theorem tq {α:Type}{g:Nat}{f:Unit->StateT SortSt Sem α}{st cN:SortSt}{Q: α->SortSt->Prop}(kp:Kp st cN)(h:∀jz,Kp st jz->wpS (model prog w) A E s (f ()) Q jz):wpS (model prog w) A E s (Bi g >>= f) Q cN:=by
 exact wpS_bind (m:=Bi g) (wpS_modify (f:=fun s=>Bb s g) (h _ (kp.Qx g)))
theorem mem_of {xs:Array Keyed}{i:Nat}{p:Keyed}(h:xs[i]? = some p):p∈xs.toList:=Array.mem_toList_iff.mpr (Array.mem_of_getElem? h)
theorem uo {xs:Array Keyed}{i j:Nat}(h:Sg key xs 0 j):Sg key xs i j:=fun p q _ h2 h3=>h p q (Um _) h2 h3
abbrev Ki (key:Keyed->Int)(a b:Array Keyed)(st:SortSt)(x:Nat)(c:Option (Array Keyed)×Array Keyed×Nat×Nat×Nat)(aE:SortSt):Prop:=Kp st aE/\∃out ia ib g,c=(none,out,ia,ib,g)/\Mg key a b out.toList ia ib/\x+1<=ia+ib/\ia+1<a.size/\ib<b.size
abbrev MA (key:Keyed->Int)(a b:Array Keyed)(st:SortSt)(c:Option (Array Keyed)×Array Keyed×Nat×Nat×Nat)(aE:SortSt):Prop:=Kp st aE/\∃r,c.1=some r/\Good key a b r
abbrev KD (key:Keyed->Int)(a b:Array Keyed)(eQ:SortSt)(x:Nat)(y:Nat)(c:Option (Array Keyed)×Array Keyed×Nat×Nat×Nat×Nat)(aE:SortSt):Prop:=aE=eQ/\∃out ia ib p q,c=(none,out,ia,ib,p,q)/\Mg key a b out.toList ia ib/\x+1+y<=ia+ib/\ia+1<a.size/\ib<b.size
abbrev Ke (key:Keyed->Int)(a b:Array Keyed)(eQ:SortSt)(x:Nat)(c:Option (Array Keyed)×Array Keyed×Nat×Nat×Nat×Nat)(aE:SortSt):Prop:=aE=eQ/\((∃r,c.1=some r/\Good key a b r)∨(c.1=none/\Mg key a b c.2.1.toList c.2.2.1 c.2.2.2.1/\x+2<=c.2.2.1+c.2.2.2.1/\c.2.2.1+1<a.size/\c.2.2.2.1<b.size))
abbrev Me (key:Keyed->Int)(a b:Array Keyed)(st:SortSt)(x:Nat)(y:Nat)(c:Option (Array Keyed)×Array Keyed×Nat×Nat×Nat×Nat×Nat)(aE:SortSt):Prop:=Kp st aE/\∃out ia ib g p q,c=(none,out,ia,ib,g,p,q)/\Mg key a b out.toList ia ib/\x+2<=ia+ib/\ia+1<a.size/\ib<b.size
abbrev Iu (key:Keyed->Int)(a b:Array Keyed)(st:SortSt)(x:Nat)(c:Option (Array Keyed)×Array Keyed×Nat×Nat×Nat×Nat×Nat)(aE:SortSt):Prop:=Kp st aE/\((∃r,c.1=some r/\Good key a b r)∨(c.1=none/\Mg key a b c.2.1.toList c.2.2.1 c.2.2.2.1/\x+2<=c.2.2.1+c.2.2.2.1/\c.2.2.1+1<a.size/\c.2.2.2.1<b.size))
theorem G1 {a b:Array Keyed}{st:SortSt}{Q:Array Keyed->SortSt->Prop}(hL:iz prog w A E s a₀ key kd)(hk:kindOf st=kd)(yM:∀p∈a.toList,p∈a₀.toList)(vM:∀p∈b.toList,p∈a₀.toList)
  (y9:Sg key a 0 a.size) (FH:Sg key b 0 b.size) (NM:1<=a.size) (yD:1<=b.size) (h0:ky key b 0<=ky key a 0) (hl:∀j,j<b.size->ky key b j<=ky key a (a.size-1))
  (h:∀res aE,Kp st aE->Good key a b res->Q res aE):wpS (model prog w) A E s (wD a b) Q st:=by
 refine wpS_bind (m:=liftM (rule "list.sort.merge-lo")) (wpS_lift (wpAny_rule ⟨rfl,?_⟩))
 refine dm yD fun p e =>?_
 have mz:Mg key a b (#[]:Array Keyed).toList 0 0:=⟨Um _,Um _,y9,FH,by simp,.nil,(fun _ h=>by cases h),(fun _ h=>by cases h)⟩
 have m0:Mg key a b (#[p]:Array Keyed).toList 0 1:=mz.md e yD h0
 refine nO (fun z1=>wpS_pure (h _ _ (Kp.refl _) (m0.done (.inr z1)))) fun z1 =>?_
 refine nO (fun z2=>wpS_pure (h _ _ (Kp.refl _) (m0.last z2 hl))) fun z2 =>?_
 refine wpS_bind (wpS_get ?_)
 refine wpS_bind (wpS_mono (wpS_forRange
  (I:=Ki key a b st)
  (Q:=MA key a b st) ?step ?fin ⟨Kp.refl _,_,_,_,_,rfl,m0,by omega,by omega,by omega⟩) ?post)
 case post=>
  rintro⟨c1,c⟩ aE ⟨kp,r,e1,g⟩
  cases e1
  exact wpS_pure (h _ _ kp g)
 case fin=>
  intro c aE
  refine ae.go ?_
  rintro kp out ia ib g rfl mm h1 h2 h3
  rw[Nat.zero_max] at h1
  omega
 case step=>
  intro x c eQ _ hx
  refine ae.go ?_
  rintro kp1 out ia ib g rfl mm h1 h2 h3
  dsimp -zeta only
  refine wpS_bind (wpS_mono (wpS_forRange
   (I:=KD key a b eQ x)
   (Q:=Ke key a b eQ x) ?my ?fin1 ⟨rfl,out,ia,ib,_,_,rfl,mm,by omega,h2,h3⟩) ?post1)
  case fin1=>
   intro c aE
   refine ae.go ?_
   rintro rfl out ia ib p q rfl mm h1 h2 h3
   exact⟨rfl,.inr ⟨rfl,mm,by rw[Nat.zero_max] at h1;show x+2<=ia+ib;omega,h2,h3⟩⟩
  case my=>
   intro y c aE _ hy
   refine ae.go ?_
   rintro rfl out ia ib p q rfl mm h1 h2 h3
   dsimp only
   refine dm h3 fun p1 e1=>dm (Wj h2) fun p2 e2 =>?_
   refine ltB hL (vM _ (mem_of e1)) (yM _ (mem_of e2)) (kp1.kind.trans hk) ?_
   rw[<-df (key:=key) e1,<-df (key:=key) e2]
   by_cases cF:ky key b ib<ky key a ia
   ·rw[decide_eq_true cF]
    dsimp only
    refine IM rfl ?_
    refine dm h3 fun p3 e3 =>?_
    have m1:=mm.md e3 h3 (Yo cF)
    refine nO (fun z3=>wpS_pure ⟨rfl,.inl ⟨_,rfl,m1.done (.inr z3)⟩⟩) fun z3 =>?_
    refine l4 (fun z4=>wpS_pure ⟨rfl,.inr ⟨rfl,m1,by show x+2<=ia+(ib+1);omega,h2,Uq h3 z3⟩⟩) fun z4 =>?_
    exact wpS_pure ⟨rfl,_,_,_,_,_,rfl,m1,by omega,h2,Uq h3 z3⟩
   ·rw[decide_eq_false cF]
    dsimp only
    refine HU Ju ?_
    refine dm (Wj h2) fun p3 e3 =>?_
    have m1:=mm.mJ e3 (by omega) (Int.not_lt.mp cF)
    refine nO (fun z3=>wpS_pure ⟨rfl,.inl ⟨_,rfl,m1.last z3 hl⟩⟩) fun z3 =>?_
    refine l4 (fun z4=>wpS_pure ⟨rfl,.inr ⟨rfl,m1,by show x+2<=ia+1+ib;omega,Uq h2 z3,h3⟩⟩) fun z4 =>?_
    exact wpS_pure ⟨rfl,_,_,_,_,_,rfl,m1,by omega,Uq h2 z3,h3⟩
  refine Fx fun c1 out ia ib p q =>?_
  intro bN hc
  have es:bN=eQ:=hc.1
  subst es
  refine Or.elim hc.2 (fun gg =>?_) fun gg =>?_
  ·refine ae.el gg _ ?_
   intro r e1 gd
   have e1:c1=some r:=e1
   subst e1
   exact wpS_pure ⟨kp1,r,rfl,gd⟩
  have e1:c1=none:=gg.1
  have mm:Mg key a b out.toList ia ib:=gg.2.1
  have h1:x+2<=ia+ib:=gg.2.2.1
  have h2:ia+1<a.size:=gg.2.2.2.1
  have h3:ib<b.size:=gg.2.2.2.2
  clear gg hc
  subst e1
  dsimp -zeta only
  refine wpS_bind (wpS_lift (wpAny_rule ⟨rfl,?_⟩))
  refine wpS_bind (wpS_mono (wpS_forRange
   (I:=Me key a b st x)
   (Q:=Iu key a b st x) ?step2 ?fin2 ⟨kp1,out,ia,ib,_,_,_,rfl,mm,by omega,h2,h3⟩) ?post2)
  case fin2=>
   intro c aE
   refine ae.go ?_
   rintro kp out ia ib g p q rfl mm h1 h2 h3
   exact⟨kp,.inr ⟨rfl,mm,h1,h2,h3⟩⟩
  case post2=>
   refine Gi fun c1 out ia ib g p q =>?_
   intro cN hc
   have kp:Kp st cN:=hc.1
   refine Or.elim hc.2 (fun gg =>?_) fun gg =>?_
   ·refine ae.el gg _ ?_
    intro r e1 gd
    have e1:c1=some r:=e1
    subst e1
    exact wpS_pure ⟨kp,r,rfl,gd⟩
   have e1:c1=none:=gg.1
   have mm:Mg key a b out.toList ia ib:=gg.2.1
   have h1:x+2<=ia+ib:=gg.2.2.1
   have h2:ia+1<a.size:=gg.2.2.2.1
   have h3:ib<b.size:=gg.2.2.2.2
   clear gg hc
   subst e1
   dsimp only
   exact tq kp fun jz kk=>wpS_pure ⟨kk,_,_,_,_,rfl,mm,by omega,h2,h3⟩
  case step2=>
   intro y c cN _ hy
   refine ae.go ?_
   rintro kp out ia ib g p q rfl mm h1 h2 h3
   dsimp -zeta only
   extract_lets s1 o1 s2 i1 s3 i2 s4 mg s5 ac bc ib1 jp mg1
   refine rl (fun z:Nat=>jp () z) (fun _=>True) (fun g' _ =>?_) fun H =>?_
   rotate_left
   ·exact l4 (fun _=>H _ trivial) fun _=>H _ trivial
   refine tq kp fun jz kk =>?_
   dsimp -zeta only [s1,o1,s2,i1,s3,i2,s4,mg,s5,ac,bc,ib1]
   have GW:kindOf jz=kd:=kk.kind.trans hk
   have eA:ia+(a.size-ia)=a.size:=Y7 (Uy (Wj h2))
   refine dm h3 fun p1 e1 =>?_
   refine jL hL GW yM (vM _ (mem_of e1)) (by rw[eA];exact uo y9) (Yu eA) (by omega) fun k1 g1 =>?_
   obtain⟨g11,g12,g13⟩:=g1
   rw[<-df (key:=key) e1] at g12 g13
   dsimp -zeta only
   extract_lets ac2 jp2 o2 i3
   refine rl (fun z:Array Keyed×Nat=>jp2 () z.1 z.2) (fun z=>Mg key a b z.1.toList z.2 ib/\ia<=z.2/\z.2+1<a.size/\ky key b ib<=ky key a z.2) (fun z hz =>?_) fun H =>?_
   rotate_left
   ·refine l4 (fun ka =>?_) fun ka =>?_
    ·have Kn:k1>0:=ka
     have kA:ia+k1<=a.size:=Jr (U4 g11 ia) (Yu eA)
     have m1:=mm.Lw (k:=k1) kA (fun j j1 j2=>by have:=nE (g12 (j-ia) (Nat.sub_lt_left_of_lt_add j1 j2));rw[Y7 j1] at this;exact this)
     refine nO (fun z1=>wpS_pure ⟨kk,.inl ⟨_,rfl,m1.last z1 hl⟩⟩) fun z1 =>?_
     refine nO (fun z2=>wpS_pure ⟨kk,.inl ⟨_,rfl,m1.done (.inl z2)⟩⟩) fun z2 =>?_
     exact H (o2,i3) ⟨m1,Uw _ _,Uq (Uq kA z2) z1,Yo (nj (g13 k1 (Je _) (by omega)))⟩
    ·exact H (out,ia) ⟨mm,Je _,h2,Yo (nj (g13 0 (by omega) (by omega)))⟩
   obtain⟨out2,ia2⟩:=z
   have m1:Mg key a b out2.toList ia2 ib:=hz.1
   have n1:ia<=ia2:=hz.2.1
   have n2:ia2+1<a.size:=hz.2.2.1
   have n3:ky key b ib<=ky key a ia2:=hz.2.2.2
   clear hz
   refine dm h3 fun p2 e2 =>?_
   have m2:=m1.md e2 h3 n3
   dsimp -zeta only [ac2]
   extract_lets o3
   refine nO (fun z3=>wpS_pure ⟨kk,.inl ⟨_,rfl,m2.done (.inr z3)⟩⟩) fun z3 =>?_
   have eB:ib+1+(b.size-(ib+1))=b.size:=Y7 h3
   have h4:ib+1<b.size:=Uq h3 z3
   refine dm (Wj n2) fun p3 e3 =>?_
   refine jL hL GW vM (yM _ (mem_of e3)) (by rw[eB];exact uo FH) (Yu eB) (Nat.sub_pos_of_lt h4) fun k2 g2 =>?_
   obtain⟨g21,g22,g23⟩:=g2
   rw[<-df (key:=key) e3] at g22 g23
   dsimp -zeta only
   extract_lets bc2 jp3 o4 i4
   refine rl (fun z:Array Keyed×Nat=>jp3 () z.1 z.2) (fun z=>Mg key a b z.1.toList ia2 z.2/\ib<=z.2/\z.2<b.size/\ky key a ia2<=ky key b z.2) (fun z hz =>?_) fun H =>?_
   rotate_left
   ·refine l4 (fun kz =>?_) fun kz =>?_
    ·have kB:ib+1+k2<=b.size:=Jr (U4 g21 _) (Yu eB)
     have m3:=m2.MT (k:=k2) kB (fun j j1 j2=>by have:=jS (g22 (j-(ib+1)) (Nat.sub_lt_left_of_lt_add j1 j2));rw[Y7 j1] at this;exact Yo this)
     refine nO (fun z4=>wpS_pure ⟨kk,.inl ⟨_,rfl,m3.done (.inr z4)⟩⟩) fun z4 =>?_
     exact H (o4,i4) ⟨m3,Jr (Yw _) (Uw _ _),Uq kB z4,jP (g23 k2 (Je _) (by omega))⟩
    ·exact H (o3,ib+1) ⟨m2,Yw _,h4,jP (g23 0 (by omega) (Nat.sub_pos_of_lt h4))⟩
   obtain⟨out3,ib3⟩:=z
   have m3:Mg key a b out3.toList ia2 ib3:=hz.1
   have n4:ib<=ib3:=hz.2.1
   have n5:ib3<b.size:=hz.2.2.1
   have n6:ky key a ia2<=ky key b ib3:=hz.2.2.2
   clear hz
   refine dm (Wj n2) fun p4 e4 =>?_
   have m4:=m3.mJ e4 (by omega) n6
   dsimp only[bc2]
   refine nO (fun z5=>wpS_pure ⟨kk,.inl ⟨_,rfl,m4.last z5 hl⟩⟩) fun z5 =>?_
   refine l4 (fun _ =>?_) fun _ =>?_
   ·exact wpS_pure ⟨kk,.inr ⟨rfl,m4,by dsimp only;omega,Uq n2 z5,n5⟩⟩
   ·exact wpS_pure ⟨kk,_,_,_,_,_,_,rfl,m4,by omega,Uq n2 z5,n5⟩
end
noncomputable def wd:Array Keyed->Array Keyed->StateT SortSt Sem (Array Keyed):=sortPriv% PySem.Builtin.mergeHi
section
variable {prog:Program}{w:World}{A:Around}{E:Value->Shared->Prop}{s:Shared}{a₀:Array Keyed}{key:Keyed->Int}{kd:SortKind}
theorem BK {xs:Array Keyed}{n:Nat}(hn:n<=xs.size)(h:Sg key xs 0 xs.size):Sg key xs 0 (0+n):=fun p q h1 h2 h3=>h p q h1 h2 (by omega)
structure Mh (key:Keyed->Int)(a b:Array Keyed)(out:List Keyed)(na nb:Nat):Prop where
 ha:na<=a.size
 hb:nb<=b.size
 sa:Sg key a 0 a.size
 sb:Sg key b 0 b.size
 perm:(a.toList.take na++b.toList.take nb++out.reverse).Perm (a.toList++b.toList)
 so:Sl key out.reverse
 la:∀x∈a.toList.take na,∀y∈out,key x<=key y
 lb:∀x∈b.toList.take nb,∀y∈out,key x<=key y
theorem Mh.swap {a b:Array Keyed}{out:List Keyed}{na nb:Nat}(h:Mh key a b out na nb):Mh key b a out nb na:=
 ⟨h.hb,h.ha,h.sb,h.sa,((Yl).append_right _).trans (h.perm.trans Yl),h.so,h.lb,h.la⟩
theorem wu {xs:Array Keyed}{t n:Nat}{x:Keyed}(h:x∈(xs.toList.take n).drop t):∃j,t<=j/\j<n/\j<xs.size/\ky key xs j=key x:=by
 rw[List.drop_take] at h
 obtain⟨j,j1,j2,j3,e⟩:=m8 (key:=key) h
 exact⟨j,j1,by omega,j3,e⟩
theorem Mh.tA {a b:Array Keyed}{out:List Keyed}{na nb t:Nat}(h:Mh key a b out na nb)(ht:t<=na)(hn:1<=nb)(q:∀j,t<=j->j<na->ky key b (nb-1)<=ky key a j):Mh key a b (out++((a.toList.take na).drop t).reverse) t nb:=by
 have e:a.toList.take na=a.toList.take t++(a.toList.take na).drop t:=by
  have:=Ye t (a.toList.take na)
  rw[List.take_take,Yx ht] at this
  exact this.symm
 have sd:Sl key (a.toList.take na):=(gU h.sa).sublist (Y5 _ _)
 rw[e] at sd
 refine ae.el (J8.mp sd) _ ?_
 rintro s1 s2 s3
 have ha:=h.ha
 have hb:=h.hb
 refine⟨by omega,h.hb,h.sa,h.sb,?_,?_,?_,?_⟩
 ·have p:=h.perm
  rw[e,Ul,Ul] at p
  rw[List.reverse_append,List.reverse_reverse,Ul]
  refine U2.trans (U2.append_left _ ?_) p
  rw[<-Ul,<-Ul]
  exact Yl.append_right _
 ·rw[List.reverse_append,List.reverse_reverse]
  exact J8.mpr ⟨s2,h.so,fun x hx y hy=>h.la x (Y3 hx) y (Yp.mp hy)⟩
 ·intro x hx y hy
  rcases Jh.mp hy with hy|hy
  ·exact h.la x (by rw[e];exact Uc _ hx) y hy
  ·exact s3 x hx y (Yp.mp hy)
 ·intro x hx y hy
  rcases Jh.mp hy with hy|hy
  ·exact h.lb x hx y hy
  ·obtain⟨j,j1,j2,j3,e1⟩:=wu (key:=key) (Yp.mp hy)
   obtain⟨i,i1,i2,e2⟩:=fQ (key:=key) hx
   have:=q j j1 j2
   have:=h.sb i (nb-1) (by omega) (by omega) (by omega)
   omega
theorem Mh.tB {a b:Array Keyed}{out:List Keyed}{na nb t:Nat}(h:Mh key a b out na nb)(ht:t<=nb)(hn:1<=na)(q:∀j,t<=j->j<nb->ky key a (na-1)<=ky key b j):Mh key a b (out++((b.toList.take nb).drop t).reverse) na t:=
 (h.swap.tA ht hn q).swap
theorem BD {xs:Array Keyed}{n:Nat}{p:Keyed}(hn:1<=n)(h:xs[n-1]? = some p):((xs.toList.take n).drop (n-1)).reverse=[p]:=by
 rw[List.drop_take,show n-(n-1)=1 by omega,DA h];rfl
theorem Mh.mJ {a b out:Array Keyed}{na nb:Nat}{p:Keyed}(h:Mh key a b out.toList na nb)(hn:1<=na)(e:a[na-1]? = some p)(hb:1<=nb)(q:ky key b (nb-1)<=ky key a (na-1)):Mh key a b (out.push p).toList (na-1) nb:=by
 rw[U9,<-BD hn e]
 exact h.tA (by omega) hb fun j j1 j2=>by rw[show j=na-1 by omega];exact q
theorem Mh.md {a b out:Array Keyed}{na nb:Nat}{p:Keyed}(h:Mh key a b out.toList na nb)(hn:1<=nb)(e:b[nb-1]? = some p)(hb:1<=na)(q:ky key a (na-1)<=ky key b (nb-1)):Mh key a b (out.push p).toList na (nb-1):=by
 rw[U9,<-BD hn e]
 exact h.tB (by omega) hb fun j j1 j2=>by rw[show j=nb-1 by omega];exact q
theorem vo {xs:Array Keyed}{t n:Nat}:(xs.extract t n).toList=(xs.toList.take n).drop t:=by
 rw[Array.toList_extract,List.extract_eq_take_drop,List.drop_take]
theorem Mh.Lw {a b out:Array Keyed}{na nb t:Nat}(h:Mh key a b out.toList na nb)(ht:t<=na)(hn:1<=nb)(q:∀j,t<=j->j<na->ky key b (nb-1)<=ky key a j):Mh key a b (out++(a.extract t na).reverse).toList t nb:=by
 rw[Ut,Array.toList_reverse,vo]
 exact h.tA ht hn q
theorem Mh.MT {a b out:Array Keyed}{na nb t:Nat}(h:Mh key a b out.toList na nb)(ht:t<=nb)(hn:1<=na)(q:∀j,t<=j->j<nb->ky key a (na-1)<=ky key b j):Mh key a b (out++(b.extract t nb).reverse).toList na t:=by
 rw[Ut,Array.toList_reverse,vo]
 exact h.tB ht hn q
theorem zA {xs:Array Keyed}{n:Nat}:(xs.extract 0 n).toList=xs.toList.take n:=by rw[vo,List.drop_zero]
theorem Mh.done {a b out:Array Keyed}{na nb:Nat}(h:Mh key a b out.toList na nb)(q:na=0∨nb=0):Good key a b (a.extract 0 na++b.extract 0 nb++out.reverse):=by
 unfold Good
 rw[Ut,Ut,zA,zA,Array.toList_reverse]
 refine⟨h.perm,J8.mpr ⟨J8.mpr ⟨(gU h.sa).sublist (Y5 _ _),(gU h.sb).sublist (Y5 _ _),fun x hx y hy =>?_⟩,h.so,fun x hx y hy =>?_⟩⟩
 ·obtain⟨j,j1,j2,_⟩:=fQ (key:=key) hx
  obtain⟨i,i1,i2,_⟩:=fQ (key:=key) hy
  omega
 ·rcases Jh.mp hx with hx|hx
  ·exact h.la x hx y (Yp.mp hy)
  ·exact h.lb x hx y (Yp.mp hy)
theorem Mh.first {a b out:Array Keyed}{na nb:Nat}(h:Mh key a b out.toList na nb)(e:nb=1)(q:ky key b 0<=ky key a 0):Good key a b (b.extract 0 nb++a.extract 0 na++out.reverse):=by
 unfold Good
 rw[Ut,Ut,zA,zA,Array.toList_reverse]
 refine⟨(Yl.append_right _).trans h.perm,J8.mpr ⟨J8.mpr ⟨(gU h.sb).sublist (Y5 _ _),(gU h.sa).sublist (Y5 _ _),fun x hx y hy =>?_⟩,h.so,fun x hx y hy =>?_⟩⟩
 ·obtain⟨j,j1,j2,e1⟩:=fQ (key:=key) hx
  obtain⟨i,i1,i2,e2⟩:=fQ (key:=key) hy
  have:=h.sa 0 i (by omega) (by omega) i2
  rw[show j=0 by omega] at e1
  omega
 ·rcases Jh.mp hx with hx|hx
  ·exact h.lb x hx y (Yp.mp hy)
  ·exact h.la x hx y (Yp.mp hy)
abbrev KQ (key:Keyed->Int)(a b:Array Keyed)(st:SortSt)(x:Nat)(c:Option (Array Keyed)×Nat×Nat×Array Keyed×Nat)(aE:SortSt):Prop:=Kp st aE/\∃na nb out g,c=(none,na,nb,out,g)/\Mh key a b out.toList na nb/\na+nb+x+1<=a.size+b.size/\1<=na/\2<=nb
abbrev KO (key:Keyed->Int)(a b:Array Keyed)(st:SortSt)(c:Option (Array Keyed)×Nat×Nat×Array Keyed×Nat)(aE:SortSt):Prop:=Kp st aE/\∃r,c.1=some r/\Good key a b r
abbrev Lo (key:Keyed->Int)(a b:Array Keyed)(eQ:SortSt)(x:Nat)(y:Nat)(c:Option (Array Keyed)×Nat×Nat×Array Keyed×Nat×Nat)(aE:SortSt):Prop:=aE=eQ/\∃na nb out p q,c=(none,na,nb,out,p,q)/\Mh key a b out.toList na nb/\na+nb+x+1+y<=a.size+b.size/\1<=na/\2<=nb
abbrev MJ (key:Keyed->Int)(a b:Array Keyed)(eQ:SortSt)(x:Nat)(c:Option (Array Keyed)×Nat×Nat×Array Keyed×Nat×Nat)(aE:SortSt):Prop:=aE=eQ/\((∃r,c.1=some r/\Good key a b r)∨(c.1=none/\Mh key a b c.2.2.2.1.toList c.2.1 c.2.2.1/\c.2.1+c.2.2.1+x+2<=a.size+b.size/\1<=c.2.1/\2<=c.2.2.1))
abbrev Mf (key:Keyed->Int)(a b:Array Keyed)(st:SortSt)(x:Nat)(y:Nat)(c:Option (Array Keyed)×Nat×Nat×Array Keyed×Nat×Nat×Nat)(aE:SortSt):Prop:=Kp st aE/\∃na nb out g p q,c=(none,na,nb,out,g,p,q)/\Mh key a b out.toList na nb/\na+nb+x+2<=a.size+b.size/\1<=na/\2<=nb
abbrev KG (key:Keyed->Int)(a b:Array Keyed)(st:SortSt)(x:Nat)(c:Option (Array Keyed)×Nat×Nat×Array Keyed×Nat×Nat×Nat)(aE:SortSt):Prop:=Kp st aE/\((∃r,c.1=some r/\Good key a b r)∨(c.1=none/\Mh key a b c.2.2.2.1.toList c.2.1 c.2.2.1/\c.2.1+c.2.2.1+x+2<=a.size+b.size/\1<=c.2.1/\2<=c.2.2.1))
theorem FL {a b:Array Keyed}{st:SortSt}{Q:Array Keyed->SortSt->Prop}(hL:iz prog w A E s a₀ key kd)(hk:kindOf st=kd)(yM:∀p∈a.toList,p∈a₀.toList)(vM:∀p∈b.toList,p∈a₀.toList)
  (y9:Sg key a 0 a.size) (FH:Sg key b 0 b.size) (NM:1<=a.size) (yD:1<=b.size) (h0:ky key b 0<=ky key a 0) (hl:∀j,j<b.size->ky key b j<=ky key a (a.size-1))
  (h:∀res aE,Kp st aE->Good key a b res->Q res aE):wpS (model prog w) A E s (wd a b) Q st:=by
 refine wpS_bind (m:=liftM (rule "list.sort.merge-hi")) (wpS_lift (wpAny_rule ⟨rfl,?_⟩))
 refine dm (by omega) fun p e =>?_
 have mz:Mh key a b (#[]:Array Keyed).toList a.size b.size:=⟨Je _,Je _,y9,FH,by rw[<-Jv,<-Jv,J3,J3];simp,.nil,(fun _ _ _ h=>by cases h),(fun _ _ _ h=>by cases h)⟩
 have m0:Mh key a b (#[p]:Array Keyed).toList (a.size-1) b.size:=mz.mJ NM e yD (hl _ (by omega))
 refine nO (fun z1=>wpS_pure (h _ _ (Kp.refl _) (m0.done (.inl z1)))) fun z1 =>?_
 refine nO (fun z2=>wpS_pure (h _ _ (Kp.refl _) (m0.first z2 h0))) fun z2 =>?_
 refine wpS_bind (wpS_get ?_)
 refine wpS_bind (wpS_mono (wpS_forRange
  (I:=KQ key a b st)
  (Q:=KO key a b st) ?step ?fin ⟨Kp.refl _,_,_,_,_,rfl,m0,by omega,by omega,by omega⟩) ?post)
 case post=>
  rintro⟨c1,c⟩ aE ⟨kp,r,e1,g⟩
  cases e1
  exact wpS_pure (h _ _ kp g)
 case fin=>
  intro c aE
  refine ae.go ?_
  rintro kp na nb out g rfl mm h1 h2 h3
  rw[Nat.zero_max] at h1
  omega
 case step=>
  intro x c eQ _ hx
  refine ae.go ?_
  rintro kp1 na nb out g rfl mm h1 h2 h3
  have ua:=mm.ha
  have ub:=mm.hb
  dsimp -zeta only
  refine wpS_bind (wpS_mono (wpS_forRange
   (I:=Lo key a b eQ x)
   (Q:=MJ key a b eQ x) ?my ?fin1 ⟨rfl,na,nb,out,_,_,rfl,mm,by omega,h2,h3⟩) ?post1)
  case fin1=>
   intro c aE
   refine ae.go ?_
   rintro rfl na nb out p q rfl mm h1 h2 h3
   exact⟨rfl,.inr ⟨rfl,mm,by rw[Nat.zero_max] at h1;dsimp only;omega,h2,h3⟩⟩
  case my=>
   intro y c aE _ hy
   refine ae.go ?_
   rintro rfl na nb out p q rfl mm h1 h2 h3
   have ua:=mm.ha
   have ub:=mm.hb
   dsimp only
   have la:na-1<a.size:=Y4 h2 mm.ha
   have CJ:1<=nb:=Nat.le_of_succ_le h3
   have lb:nb-1<b.size:=Y4 CJ mm.hb
   refine dm (by first|assumption|omega) fun p1 e1=>dm (by first|assumption|omega) fun p2 e2 =>?_
   refine ltB hL (vM _ (mem_of e1)) (yM _ (mem_of e2)) (kp1.kind.trans hk) ?_
   rw[<-df (key:=key) e1,<-df (key:=key) e2]
   by_cases cF:ky key b (nb-1)<ky key a (na-1)
   ·rw[decide_eq_true cF]
    dsimp only
    refine IM rfl ?_
    refine dm (by first|assumption|omega) fun p3 e3 =>?_
    have m1:=mm.mJ h2 e3 CJ (by first|exact Yo cF|omega)
    refine nO (fun z3=>wpS_pure ⟨rfl,.inl ⟨_,rfl,m1.done (.inl z3)⟩⟩) fun z3 =>?_
    refine l4 (fun z4=>wpS_pure ⟨rfl,.inr ⟨rfl,m1,by dsimp only;omega,by dsimp only;omega,h3⟩⟩) fun z4 =>?_
    exact wpS_pure ⟨rfl,_,_,_,_,_,rfl,m1,by omega,by omega,h3⟩
   ·rw[decide_eq_false cF]
    dsimp only
    refine HU Ju ?_
    refine dm (by first|assumption|omega) fun p3 e3 =>?_
    have m1:=mm.md CJ e3 h2 (Int.not_lt.mp cF)
    refine nO (fun z3=>wpS_pure ⟨rfl,.inl ⟨_,rfl,m1.first z3 h0⟩⟩) fun z3 =>?_
    refine l4 (fun z4=>wpS_pure ⟨rfl,.inr ⟨rfl,m1,by dsimp only;omega,h2,by dsimp only;omega⟩⟩) fun z4 =>?_
    exact wpS_pure ⟨rfl,_,_,_,_,_,rfl,m1,by omega,h2,by omega⟩
  refine Fx fun c1 na nb out p q =>?_
  intro bN hc
  have es:bN=eQ:=hc.1
  subst es
  refine Or.elim hc.2 (fun gg =>?_) fun gg =>?_
  ·refine ae.el gg _ ?_
   intro r e1 gd
   have e1:c1=some r:=e1
   subst e1
   exact wpS_pure ⟨kp1,r,rfl,gd⟩
  have e1:c1=none:=gg.1
  have mm:Mh key a b out.toList na nb:=gg.2.1
  have h1:na+nb+x+2<=a.size+b.size:=gg.2.2.1
  have h2:1<=na:=gg.2.2.2.1
  have h3:2<=nb:=gg.2.2.2.2
  clear gg hc
  subst e1
  dsimp -zeta only
  refine wpS_bind (wpS_lift (wpAny_rule ⟨rfl,?_⟩))
  refine wpS_bind (wpS_mono (wpS_forRange
   (I:=Mf key a b st x)
   (Q:=KG key a b st x) ?step2 ?fin2 ⟨kp1,na,nb,out,_,_,_,rfl,mm,by omega,h2,h3⟩) ?post2)
  case fin2=>
   intro c aE
   refine ae.go ?_
   rintro kp na nb out g p q rfl mm h1 h2 h3
   exact⟨kp,.inr ⟨rfl,mm,h1,h2,h3⟩⟩
  case post2=>
   refine Gi fun c1 na nb out g p q =>?_
   intro cN hc
   have kp:Kp st cN:=hc.1
   refine Or.elim hc.2 (fun gg =>?_) fun gg =>?_
   ·refine ae.el gg _ ?_
    intro r e1 gd
    have e1:c1=some r:=e1
    subst e1
    exact wpS_pure ⟨kp,r,rfl,gd⟩
   have e1:c1=none:=gg.1
   have mm:Mh key a b out.toList na nb:=gg.2.1
   have h1:na+nb+x+2<=a.size+b.size:=gg.2.2.1
   have h2:1<=na:=gg.2.2.2.1
   have h3:2<=nb:=gg.2.2.2.2
   clear gg hc
   subst e1
   dsimp only
   exact tq kp fun jz kk=>wpS_pure ⟨kk,_,_,_,_,rfl,mm,by omega,h2,h3⟩
  case step2=>
   intro y c cN _ hy
   refine ae.go ?_
   rintro kp na nb out g p q rfl mm h1 h2 h3
   have ua:=mm.ha
   have ub:=mm.hb
   dsimp -zeta only
   extract_lets s1 o1 s2 i1 s3 i2 s4 mg s5 ac bc ib1 jp mg1
   refine rl (fun z:Nat=>jp () z) (fun _=>True) (fun g' _ =>?_) fun H =>?_
   rotate_left
   ·exact l4 (fun _=>H _ trivial) fun _=>H _ trivial
   refine tq kp fun jz kk =>?_
   dsimp -zeta only [s1,o1,s2,i1,s3,i2,s4,mg,s5,ac,bc,ib1]
   have GW:kindOf jz=kd:=kk.kind.trans hk
   have CJ:1<=nb:=Nat.le_of_succ_le h3
   have lb:nb-1<b.size:=Y4 CJ ub
   refine dm lb fun p1 e1 =>?_
   refine jL hL GW yM (vM _ (mem_of e1)) (BK ua y9) (by rw[Nat.zero_add];exact ua) (Nat.sub_one_lt (Ym h2)) fun k1 g1 =>?_
   obtain⟨g11,g12,g13⟩:=g1
   rw[<-df (key:=key) e1] at g12 g13
   simp only[Nat.zero_add] at g12 g13
   dsimp -zeta only
   extract_lets kx ac2 jp2 o2 na2
   refine rl (fun z:Nat×Array Keyed=>jp2 () z.1 z.2) (fun z=>Mh key a b z.2.toList z.1 nb/\1<=z.1/\z.1<=na/\ky key a (z.1-1)<=ky key b (nb-1)) (fun z hz =>?_) fun H =>?_
   rotate_left
   ·refine l4 (fun ka =>?_) fun ka =>?_
    ·have Kn:na-k1>0:=ka
     have m1:=mm.Lw (t:=k1) g11 CJ (fun j j1 j2=>Yo (nj (g13 j j1 j2)))
     refine nO (fun z1=>wpS_pure ⟨kk,.inl ⟨_,rfl,m1.done (.inl z1)⟩⟩) fun z1 =>?_
     have z2:¬k1=0:=z1
     exact H (na2,o2) ⟨m1,Nat.pos_of_ne_zero z2,g11,nE (g12 (k1-1) (Nat.sub_one_lt z2))⟩
    ·have Kn:¬na-k1>0:=ka
     exact H (na,out) ⟨mm,h2,Je _,nE (g12 (na-1) (Y4 h2 (Nat.le_of_sub_eq_zero (Nat.eq_zero_of_not_pos Kn))))⟩
   obtain⟨na3,out2⟩:=z
   have m1:Mh key a b out2.toList na3 nb:=hz.1
   have n1:1<=na3:=hz.2.1
   have n2:na3<=na:=hz.2.2.1
   have n3:ky key a (na3-1)<=ky key b (nb-1):=hz.2.2.2
   clear hz
   refine dm lb fun p2 e2 =>?_
   have m2:=m1.md CJ e2 n1 n3
   dsimp -zeta only [ac2,kx]
   extract_lets o3
   refine nO (fun z3=>wpS_pure ⟨kk,.inl ⟨_,rfl,m2.first z3 h0⟩⟩) fun z3 =>?_
   have NP:na3-1<a.size:=Y4 n1 (Jr n2 ua)
   have Nj:2<=nb-1:=by omega
   have Oa:0<nb-1:=Jt Nat.one_pos (Nat.le_of_succ_le Nj)
   refine dm NP fun p3 e3 =>?_
   refine jL hL GW vM (yM _ (mem_of e3)) (BK (Uy lb) FH) (by rw[Nat.zero_add];exact Uy lb) (Nat.sub_one_lt (Ym Oa)) fun k2 g2 =>?_
   obtain⟨g21,g22,g23⟩:=g2
   rw[<-df (key:=key) e3] at g22 g23
   simp only[Nat.zero_add] at g22 g23
   dsimp -zeta only
   extract_lets ky2 bc2 jp3 o4 nb4
   refine rl (fun z:Nat×Array Keyed=>jp3 () z.1 z.2) (fun z=>Mh key a b z.2.toList na3 z.1/\2<=z.1/\z.1<=nb/\ky key b (z.1-1)<=ky key a (na3-1)) (fun z hz =>?_) fun H =>?_
   rotate_left
   ·refine l4 (fun kz =>?_) fun kz =>?_
    ·have Ni:nb-1-k2>0:=kz
     have m3:=m2.MT (t:=k2) g21 n1 (fun j j1 j2=>jP (g23 j j1 j2))
     refine nO (fun z4=>wpS_pure ⟨kk,.inl ⟨_,rfl,m3.first z4 h0⟩⟩) fun z4 =>?_
     refine nO (fun z7=>wpS_pure ⟨kk,.inl ⟨_,rfl,m3.done (.inr z7)⟩⟩) fun z7 =>?_
     have y4:¬k2=1:=z4
     have y7:¬k2=0:=z7
     exact H (nb4,o4) ⟨m3,by show 2<=k2;omega,Jr g21 (Nat.sub_le _ _),Yo (jS (g22 (k2-1) (Nat.sub_one_lt y7)))⟩
    ·have Ni:¬nb-1-k2>0:=kz
     exact H (nb-1,o3) ⟨m2,Nj,Nat.sub_le _ _,Yo (jS (g22 (nb-1-1) (Y4 Oa (Nat.le_of_sub_eq_zero (Nat.eq_zero_of_not_pos Ni)))))⟩
   obtain⟨nb3,out3⟩:=z
   have m3:Mh key a b out3.toList na3 nb3:=hz.1
   have n4:2<=nb3:=hz.2.1
   have n5:nb3<=nb:=hz.2.2.1
   have n6:ky key b (nb3-1)<=ky key a (na3-1):=hz.2.2.2
   clear hz
   dsimp only[jp3]
   refine dm NP fun p4 e4 =>?_
   have m4:=m3.mJ n1 e4 (Nat.le_of_succ_le n4) n6
   dsimp only[bc2,ky2]
   refine nO (fun z5=>wpS_pure ⟨kk,.inl ⟨_,rfl,m4.done (.inl z5)⟩⟩) fun z5 =>?_
   refine l4 (fun _=>wpS_pure ⟨kk,.inr ⟨rfl,m4,by dsimp only;omega,Nat.pos_of_ne_zero z5,n4⟩⟩) fun _ =>?_
   exact wpS_pure ⟨kk,_,_,_,_,_,_,rfl,m4,by omega,Nat.pos_of_ne_zero z5,n4⟩
end
section
variable {prog:Program}{w:World}{A:Around}{E:Value->Shared->Prop}{s:Shared}{a₀:Array Keyed}{key:Keyed->Int}{kd:SortKind}
theorem za {M:Model}{σ:Type}{st aE: σ}{Q:PUnit -> σ->Prop}(h:Q ⟨⟩ aE):wpS M A E s (set aE:StateT σ Sem PUnit) Q st:=by
 unfold wpS
 rw[StateT.run_set];exact wpAny_pure ⟨rfl,h⟩
theorem wJ {sa:Nat}:∀(l:List Keyed) (n:Nat) (xs:Array Keyed),sa+n+l.length<=xs.size->∀k:Nat,
  ((l.zipIdx n).foldl (fun a (p:Keyed×Nat)=>a.setIfInBounds (sa+p.2) p.1) xs)[k]? = if sa+n<=k/\k<sa+n+l.length then l[k-(sa+n)]? else xs[k]?
 | [],n,xs,h,k=>by rw[List.zipIdx_nil,List.foldl_nil,if_neg (by simp only[Yn];omega)]
 | p::l,n,xs,h,k=>by
  rw[J0] at h
  rw[List.zipIdx_cons,List.foldl_cons,wJ l (n+1) _ (by rw[Array.size_setIfInBounds];omega),J0]
  by_cases e1:sa+(n+1)<=k/\k<sa+(n+1)+l.length
  ·rw[if_pos e1,if_pos (by omega),show k-(sa+n)=(k-(sa+(n+1)))+1 by omega,List.getElem?_cons_succ]
  ·rw[if_neg e1,Array.getElem?_setIfInBounds]
   by_cases e2:sa+n=k
   ·subst e2
    rw[if_pos rfl,if_pos (by omega),if_pos (by omega),Nat.sub_self];rfl
   ·rw[if_neg e2,if_neg (by omega)]
noncomputable def wr (sa:Nat)(l:List Keyed)(xs:Array Keyed):Array Keyed:=l.zipIdx.foldl (fun a (p:Keyed×Nat)=>a.setIfInBounds (sa+p.2) p.1) xs
theorem yE {sa:Nat}{l:List Keyed}{xs:Array Keyed}(h:sa+l.length<=xs.size)(k:Nat):(wr sa l xs)[k]? = if sa<=k/\k<sa+l.length then l[k-sa]? else xs[k]?:=wJ l 0 xs h k
theorem zY {sa:Nat}{l:List Keyed}{xs:Array Keyed}(h:sa+l.length<=xs.size):(wr sa l xs).toList=xs.toList.take sa++(l++xs.toList.drop (sa+l.length)):=by
 refine List.ext_getElem? fun k =>?_
 have hl:(xs.toList.take sa).length=sa:=by rw[J1,Jv];omega
 rw[Ua,yE h]
 by_cases e1:k<sa
 ·rw[if_neg (by omega),J6 (by omega),List.getElem?_take_of_lt e1,Ua]
 ·rw[Jz (by omega),hl]
  by_cases e2:k<sa+l.length
  ·rw[if_pos (by omega),J6 (by omega)]
  ·rw[if_neg (by omega),Jz (by omega),List.getElem?_drop,<-Ua]
   congr 1;omega
theorem An {sa:Nat}{l:List Keyed}{xs:Array Keyed}(h:sa+l.length<=xs.size)(hp:l.Perm ((xs.toList.drop sa).take l.length)):(wr sa l xs).Perm xs:=by
 refine Wa.mpr ?_
 rw[zY h]
 have e:xs.toList=xs.toList.take sa++((xs.toList.drop sa).take l.length++xs.toList.drop (sa+l.length)):=by
  rw[<-List.drop_drop,Ye,Ye]
 exact((hp.append_right _).append_left _).trans (U2.of_eq e.symm)
theorem je {xs:Array Keyed}{i j k:Nat}(hj:j<=xs.size)(hk:i+k<j):ky key (xs.extract i j) k=ky key xs (i+k):=by
 refine di ?_
 rw[Array.getElem?_extract,if_pos (by omega)]
theorem wx {xs:Array Keyed}{i j:Nat}(hj:j<=xs.size)(fq:i<=j)(h:Sg key xs i j):Sg key (xs.extract i j) 0 (xs.extract i j).size:=by
 rw[Array.size_extract,Yx hj]
 intro p q _ h2 h3
 rw[je hj (by omega),je hj (by omega)]
 exact h _ _ (by omega) (by omega) (by omega)
theorem tZ {xs:Array Keyed}{i j:Nat}{p:Keyed}(h:p∈(xs.extract i j).toList):p∈xs.toList:=by
 rw[vo] at h
 exact Y2 (Y3 h)
structure Tb (a₀:Array Keyed)(kd:SortKind)(st:SortSt):Prop where
 perm:(arrOf st).Perm a₀
 kind:kindOf st=kd
 failed:failedOf st=none
theorem vk {xs:Array Keyed}{res:List Keyed}{sa u sb v e:Nat}(h1:sa<=u)(h2:u<=sb)(h3:sb<=v)(h4:v<=e)(h5:e<=xs.size)(h6:sa<sb)(len:u+res.length=v)(gp:res.Perm ((xs.toList.drop u).take res.length))(gs:res.Pairwise fun a b=>key a<=key b)
  (s1:Sg key xs sa sb) (s2:Sg key xs sb e) (hA:∀p,sa<=p->p<u->ky key xs p<=ky key xs sb) (hB:∀q,v<=q->q<e->ky key xs (sb-1)<=ky key xs q):Sg key (wr u res xs) sa e:=by
 have at':=yE (sa:=u) (l:=res) (xs:=xs) (by omega)
 have lQ:∀p,(p<u∨v<=p)->ky key (wr u res xs) p=ky key xs p:=fun p hp'=>by
  refine di ?_
  rw[at' p,if_neg (by omega)]
 have kO:∀p,u<=p->p<v->∃x,res[p-u]? = some x/\ky key (wr u res xs) p=key x:=fun p a1 a2=>by
  obtain⟨x,hx⟩:∃x,res[p-u]? = some x:=⟨_,Jd (by omega)⟩
  exact⟨x,hx,df ((at' p).trans ((if_pos (by omega)).trans hx))⟩
 have hm:∀p,u<=p->p<v->∃j,u<=j/\j<v/\ky key (wr u res xs) p=ky key xs j:=fun p a1 a2=>by
  refine ae.el (kO p a1 a2) _ ?_
  rintro x hx ex
  have Ej:=gp.mem_iff.mp (U3.mpr ⟨_,hx⟩)
  obtain⟨j,j1,j2,j3,e4⟩:=m8 (key:=key) Ej
  exact⟨j,j1,by omega,by omega⟩
 have sl:sb-1<sb:=by omega
 intro p q g1 g2 g3
 by_cases a1:q<u
 ·have a0:=Ub g2 a1
  rw[lQ p (.inl a0),lQ q (.inl a1)];exact s1 p q g1 g2 (Jt a1 h2)
 have a1:=Yz a1
 by_cases a2:q<v
 ·by_cases a3:p<u
  ·refine ae.el (hm q a1 a2) _ ?_
   rintro j j1 j2 ej
   rw[lQ p (.inl a3),ej]
   by_cases a4:j<sb
   ·exact s1 p j g1 (Jr (Uy a3) j1) a4
   ·exact Int.le_trans (hA p g1 a3) (s2 sb j (Je _) (Yz a4) (Jt j2 h4))
  ·have a3:=Yz a3
   refine ae.el (kO p a3 (Ub g2 a2)) _ ?_
   rintro x hx ex
   refine ae.el (kO q a1 a2) _ ?_
   rintro y hy ey
   rw[ex,ey]
   by_cases a5:p=q
   ·subst a5
    rw[hx] at hy;cases hy;exact Yk _
   ·obtain⟨l1,e5⟩:=Jx.mp hx
    obtain⟨l2,e6⟩:=Jx.mp hy
    have:=Ya.mp gs _ _ l1 l2 (Nat.sub_lt_sub_right a3 (Uq g2 a5))
    rw[e5,e6] at this;exact this
 ·have a2:=Yz a2
  rw[lQ q (.inr a2)]
  have hq:=hB q a2 g3
  by_cases a3:p<u
  ·rw[lQ p (.inl a3)]
   exact Int.le_trans (s1 p (sb-1) g1 (by omega) sl) hq
  ·by_cases a4:p<v
   ·refine ae.el (hm p (Yz a3) a4) _ ?_
    rintro j j1 j2 ej
    rw[ej]
    by_cases a5:j<sb
    ·exact Int.le_trans (s1 j (sb-1) (Jr h1 j1) (by omega) sl) hq
    ·exact s2 j q (Yz a5) (Jr (Uy j2) a2) g3
   ·have a4:=Yz a4
    rw[lQ p (.inr a4)]
    exact s2 p q (Jr h3 a4) g2 g3
theorem rj {st:SortSt}{i sa na sb nb p1 p2:Nat}{L R:List (Nat×Nat×Nat)}{Q:Bool->SortSt->Prop}(hL:iz prog w A E s a₀ key kd)(hT:Tb a₀ kd st)
  (hp:(pendingOf st).toList=L++(sa,na,p1)::(sb,nb,p2)::R) (hi:L.length=i) (e1:sb=sa+na) (n1:1<=na) (n2:1<=nb) (hz:sb+nb<=a₀.size)
  (s1:Sg key (arrOf st) sa sb) (s2:Sg key (arrOf st) sb (sb+nb))
  (h:∀aE,Tb a₀ kd aE->(pendingOf aE).toList=L++(sa,na+nb,p1)::R->(∀k,k<sa∨sb+nb<=k->(arrOf aE)[k]? = (arrOf st)[k]?)->Sg key (arrOf aE) sa (sb+nb)->Q true aE) :
  wpS (model prog w) A E s (mergeAt' i) Q st:=by
 have hsz:=hT.perm.size_eq
 have g1:(pendingOf st)[i]? = some (sa,na,p1):=by
  rw[<-Ua,hp,Jz (by omega),hi,Nat.sub_self];rfl
 have g2:(pendingOf st)[i+1]? = some (sb,nb,p2):=by
  rw[<-Ua,hp,Jz (by omega),hi,show i+1-i=1 by omega];rfl
 have hP:(((pendingOf st).setIfInBounds i (sa,na+nb,p1)).eraseIdxIfInBounds (i+1)).toList=L++(sa,na+nb,p1)::R:=by
  have cF:i+1<((pendingOf st).setIfInBounds i (sa,na+nb,p1)).size:=by
   rw[Array.size_setIfInBounds,<-Jv,hp,Jf,J0,J0];omega
  rw[Array.eraseIdxIfInBounds,dif_pos cF,Array.toList_eraseIdx,Array.toList_setIfInBounds,hp]
  rw[List.set_append_right _ _ (by omega),hi,Nat.sub_self,List.set_cons_zero,List.eraseIdx_append_of_length_le (by omega),hi,show i+1-i=1 by omega]
  rfl
 refine wpS_bind (m:=get) (wpS_get ?_)
 dsimp only
 rw[g1,g2]
 dsimp only
 refine wpS_bind (za ?_)
 have am:∀p∈(arrOf st).toList,p∈a₀.toList:=fun p h'=>(Wa.mp hT.perm).mem_iff.mp h'
 refine wpS_bind (gH (xs:=arrOf st) (by omega) fun q1 f1 =>?_)
 refine wpS_bind (jb (arr:=arrOf st) hL (show kindOf (setPending st _)=kd from hT.kind) am (am _ (mem_of f1)) (by rw[<-e1];exact s1) (by omega) (by omega) fun k gk =>?_)
 obtain⟨k1,k2,k3⟩:=gk
 rw[<-df (key:=key) f1] at k2 k3
 obtain⟨d,rfl⟩:∃d,na=k+d:=Nat.exists_eq_add_of_le k1
 have eD:sb=sa+k+d:=by omega
 have hA:∀p,sa<=p->p<sa+k->ky key (arrOf st) p<=ky key (arrOf st) sb:=fun p h1 h2=>by
  have:=nE (k2 (p-sa) (by omega));rwa[show sa+(p-sa)=p by omega] at this
 dsimp only
 rw[Y8]
 refine nO (fun z1 =>?_) fun z1 =>?_
 ·refine wpS_pure (h _ ⟨hT.perm,hT.kind,hT.failed⟩ hP (fun _ _=>rfl) fun p q h1 h2 h3 =>?_)
  show ky key (arrOf st) p<=ky key (arrOf st) q
  by_cases c1:q<sb
  ·exact s1 p q h1 h2 c1
  ·by_cases c2:sb<=p
   ·exact s2 p q c2 h2 h3
   ·exact Int.le_trans (hA p h1 (by omega)) (s2 sb q (Je _) (by omega) h3)
 have d1:1<=d:=Nat.pos_of_ne_zero z1
 refine wpS_bind (gH (xs:=arrOf st) (by omega) fun q2 f2 =>?_)
 refine wpS_bind (jb (arr:=arrOf st) hL (show kindOf (setPending st _)=kd from hT.kind) am (am _ (mem_of f2)) s2 (by omega) (by omega) fun m gm =>?_)
 obtain⟨m1,m2,m3⟩:=gm
 rw[<-df (key:=key) f2,<-eD] at m2 m3
 have hB:∀q,sb+m<=q->q<sb+nb->ky key (arrOf st) (sb-1)<=ky key (arrOf st) q:=fun q h1 h2=>by
  have:=jP (m3 (q-sb) (by omega) (by omega));rwa[show sb+(q-sb)=q by omega] at this
 dsimp only
 have hC:=nj (k3 k (Je _) (by omega))
 by_cases z2:m=0
 ·have:=hB sb (by omega) (by omega)
  have:=s1 (sa+k) (sb-1) (by omega) (by omega) (by omega)
  omega
 refine HU (by simpa using z2) ?_
 have x1:((arrOf st).extract (sa+k) sb).size=d:=by rw[Array.size_extract,Yx (by omega),eD,Y8]
 have y1:((arrOf st).extract sb (sb+m)).size=m:=by rw[Array.size_extract,Yx (by omega),Y8]
 have sx:=wx (key:=key) (xs:=arrOf st) (i:=sa+k) (j:=sb) (by omega) (by omega) (fun p q h1 h2 h3=>s1 p q (by omega) h2 h3)
 have sy:=wx (key:=key) (xs:=arrOf st) (i:=sb) (j:=sb+m) (by omega) (by omega) (fun p q h1 h2 h3=>s2 p q h1 h2 (by omega))
 have h0:ky key ((arrOf st).extract sb (sb+m)) 0<=ky key ((arrOf st).extract (sa+k) sb) 0:=by
  rw[je (by omega) (by omega),je (by omega) (by omega)]
  exact Yo hC
 have hl:∀j,j<((arrOf st).extract sb (sb+m)).size->ky key ((arrOf st).extract sb (sb+m)) j<=ky key ((arrOf st).extract (sa+k) sb) (((arrOf st).extract (sa+k) sb).size-1):=fun j hj=>by
  rw[y1] at hj
  rw[x1,je (by omega) (by omega),je (by omega) (by omega),show sa+k+(d-1)=sb-1 by rw[eD,Nat.add_sub_assoc d1]]
  have:=jS (m2 j hj);omega
 have wb:∀(res:Array Keyed) (bN:SortSt),Kp (setPending st (((pendingOf st).setIfInBounds i (sa,k+d+nb,p1)).eraseIdxIfInBounds (i+1))) bN->Good key ((arrOf st).extract (sa+k) sb) ((arrOf st).extract sb (sb+m)) res->Q true (setArr bN (wr (sa+k) res.toList (arrOf bN))):=fun res bN kp gd=>by
  have ea:arrOf bN=arrOf st:=kp.arr
  obtain⟨gp,gs⟩:=gd
  have len:res.toList.length=d+m:=by rw[gp.length_eq,Jf,Jv,Jv,x1,y1]
  have hw:sa+k+res.toList.length<=(arrOf st).size:=by omega
  have eM:((arrOf st).extract (sa+k) sb).toList++((arrOf st).extract sb (sb+m)).toList=((arrOf st).toList.drop (sa+k)).take res.toList.length:=by
   rw[vo,vo,List.drop_take,List.drop_take,len,Y8,show sb-(sa+k)=d by rw[eD,Y8],List.take_add,List.drop_drop,<-eD]
  refine h _ ⟨?_,kp.kind.trans hT.kind,kp.failed.trans hT.failed⟩ ?_ (fun p hp' =>?_) fun p q h1 h2 h3 =>?_
  ·show(wr (sa+k) res.toList (arrOf bN)).Perm a₀
   rw[ea]
   exact(An hw (gp.trans (U2.of_eq eM))).trans hT.perm
  ·show(pendingOf bN).toList=_
   rw[kp.pend];exact hP
  ·show(wr (sa+k) res.toList (arrOf bN))[p]? = _
   rw[ea,yE hw p,if_neg (by omega)]
  ·show ky key (wr (sa+k) res.toList (arrOf bN)) p<=ky key (wr (sa+k) res.toList (arrOf bN)) q
   rw[ea]
   exact vk (Uw _ _) (Jr (Uw _ _) (Yu eD.symm)) (Uw _ _) (U4 m1 _) (Jr hz (Yu hsz.symm)) (by omega) (by omega) (gp.trans (U2.of_eq eM)) gs s1 s2 hA hB p q h1 h2 h3
 have yM:∀p∈((arrOf st).extract (sa+k) sb).toList,p∈a₀.toList:=fun p hp'=>am _ (tZ hp')
 have vM:∀p∈((arrOf st).extract sb (sb+m)).toList,p∈a₀.toList:=fun p hp'=>am _ (tZ hp')
 have tl:∀(res:Array Keyed) (bN:SortSt),Kp (setPending st (((pendingOf st).setIfInBounds i (sa,k+d+nb,p1)).eraseIdxIfInBounds (i+1))) bN->Good key ((arrOf st).extract (sa+k) sb) ((arrOf st).extract sb (sb+m)) res ->
   wpS (model prog w) A E s (do
    modify fun s=>setArr s (wr (sa+k) res.toList (arrOf s))
    return (failedOf (<-get)).isNone) Q bN:=fun res bN kp gd=>by
  refine wpS_bind (wpS_modify (wpS_bind (wpS_get (wpS_pure ?_))))
  have ef:failedOf (setArr bN (wr (sa+k) res.toList (arrOf bN)))=none:=kp.failed.trans hT.failed
  rw[ef]
  exact wb res bN kp gd
 refine l4 (fun _ =>?_) fun _ =>?_
 ·exact wpS_bind (G1 (a:=(arrOf st).extract (sa+k) sb) (b:=(arrOf st).extract sb (sb+m)) hL (show kindOf (setPending st _)=kd from hT.kind) yM vM sx sy (by omega) (by omega) h0 hl fun res bN kp gd=>tl res bN kp gd)
 ·exact wpS_bind (FL (a:=(arrOf st).extract (sa+k) sb) (b:=(arrOf st).extract sb (sb+m)) hL (show kindOf (setPending st _)=kd from hT.kind) yM vM sx sy (by omega) (by omega) h0 hl fun res bN kp gd=>tl res bN kp gd)
end
section
variable {prog:Program}{w:World}{A:Around}{E:Value->Shared->Prop}{s:Shared}{a₀:Array Keyed}{key:Keyed->Int}{kd:SortKind}
def gJ (key:Keyed->Int)(xs:Array Keyed):Nat->List (Nat×Nat×Nat)->Nat->Prop
 | lo,[],hi=>lo=hi
 | lo,(s,n,_)::t,hi=>s=lo/\1<=n/\Sg key xs lo (lo+n)/\gJ key xs (lo+n) t hi
theorem gJ.le {xs:Array Keyed}:∀{L:List (Nat×Nat×Nat)} {lo hi:Nat},gJ key xs lo L hi->lo+L.length<=hi
 | [],lo,hi,h=>by have h:lo=hi:=h;simp -iota only [Yn];omega
 | (s,n,p)::t,lo,hi,h=>by
  obtain⟨_,h1,_,h2⟩:=h
  have:=h2.le
  rw[J0];omega
theorem gJ.app {xs:Array Keyed}:∀{L R:List (Nat×Nat×Nat)} {lo mid hi:Nat},gJ key xs lo L mid->gJ key xs mid R hi->gJ key xs lo (L++R) hi
 | [],R,lo,mid,hi,h,h'=>by have h:lo=mid:=h;rw[h];exact h'
 | (s,n,p)::t,R,lo,mid,hi,h,h'=>⟨h.1,h.2.1,h.2.2.1,h.2.2.2.app h'⟩
theorem gJ.cut {xs:Array Keyed}:∀{L R:List (Nat×Nat×Nat)} {lo hi:Nat},gJ key xs lo (L++R) hi->∃mid,gJ key xs lo L mid/\gJ key xs mid R hi
 | [],R,lo,hi,h=>⟨lo,rfl,h⟩
 | (s,n,p)::t,R,lo,hi,h=>by
  obtain⟨mid,h1,h2⟩:=gJ.cut (L:=t) h.2.2.2
  exact⟨mid,⟨h.1,h.2.1,h.2.2.1,h1⟩,h2⟩
theorem tV {xs ys:Array Keyed}{i j:Nat}(e:∀k,i<=k->k<j->ys[k]? = xs[k]?)(h:Sg key xs i j):Sg key ys i j:=fun p q h1 h2 h3=>by
 rw[di (e p h1 (by omega)),di (e q (by omega) h3)];exact h p q h1 h2 h3
theorem gJ.same {xs ys:Array Keyed}:∀{L:List (Nat×Nat×Nat)} {lo hi:Nat},(∀k,lo<=k->k<hi->ys[k]? = xs[k]?)->gJ key xs lo L hi->gJ key ys lo L hi
 | [],lo,hi,e,h=>h
 | (s,n,p)::t,lo,hi,e,h=>by
  obtain⟨h0,h1,h2,h3⟩:=h
  have:=h3.le
  exact⟨h0,h1,tV (fun k a b=>e k a (by omega)) h2,gJ.same (fun k a b=>e k (by omega) b) h3⟩
theorem mX {st:SortSt}{i hi:Nat}{Q:Bool->SortSt->Prop}(hL:iz prog w A E s a₀ key kd)(hT:Tb a₀ kd st)(hc:gJ key (arrOf st) 0 (pendingOf st).toList hi)(hz:hi<=a₀.size)(vP:i+1<(pendingOf st).size)
  (h:∀aE,Tb a₀ kd aE->gJ key (arrOf aE) 0 (pendingOf aE).toList hi->(pendingOf aE).size+1=(pendingOf st).size->(∀k,hi<=k->(arrOf aE)[k]? = (arrOf st)[k]?)->Q true aE):wpS (model prog w) A E s (mergeAt' i) Q st:=by
 have hl:i+1<(pendingOf st).toList.length:=by rw[Jv];exact vP
 obtain⟨⟨sa,na,p1⟩,e1⟩:∃y,(pendingOf st).toList[i]'(by omega)=y:=⟨_,rfl⟩
 obtain⟨⟨sb,nb,p2⟩,e2⟩:∃y,(pendingOf st).toList[i+1]'hl=y:=⟨_,rfl⟩
 have ep:(pendingOf st).toList=(pendingOf st).toList.take i++(sa,na,p1)::(sb,nb,p2)::(pendingOf st).toList.drop (i+2):=by
  have d1:=Yy (i:=i) (l:=(pendingOf st).toList) (by omega)
  have d2:=Yy (i:=i+1) (l:=(pendingOf st).toList) hl
  rw[e1] at d1
  rw[e2] at d2
  rw[<-d2,<-d1,Ye]
 have Dv:=hc
 rw[ep] at Dv
 refine ae.el (Dv.cut) _ ?_
 rintro mid c1 c2
 obtain⟨rfl,n1,s1,c3⟩:=c2
 obtain⟨rfl,n2,s2,c4⟩:=c3
 have Ro:=c4.le
 refine rj hL hT ep (by rw[J1];omega) rfl n1 n2 (by omega) s1 s2 fun aE t' p' o' s' =>?_
 refine h aE t' ?_ ?_ (fun k hk=>o' k (.inr (by omega)))
 ·rw[p']
  refine gJ.app (mid:=sa) (c1.same fun k _ hk=>o' k (.inl hk)) ⟨rfl,by omega,?_,?_⟩
  ·rw[<-Nat.add_assoc];exact s'
  ·rw[<-Nat.add_assoc];exact c4.same fun k hk _=>o' k (.inr hk)
 ·have l1:=congrArg Yj p'
  have l2:=congrArg Yj ep
  rw[Jv] at l1 l2
  rw[l1,l2]
  simp -iota only [Jf,J0]
  omega
theorem gJ.pow {xs:Array Keyed}{f:Nat×Nat×Nat->Nat×Nat×Nat}(hf:∀y,(f y).1=y.1/\(f y).2.1=y.2.1):∀{L:List (Nat×Nat×Nat)} {i lo hi:Nat},gJ key xs lo L hi->gJ key xs lo (L.modify i f) hi
 | [],i,lo,hi,h=>by rw[List.modify_nil];exact h
 | (s,n,p)::t,0,lo,hi,h=>by
  rw[List.modify_zero_cons]
  obtain⟨e1,e2⟩:=hf (s,n,p)
  generalize f (s,n,p)=y at e1 e2
  obtain⟨y1,y2,y3⟩:=y
  dsimp only at e1 e2
  subst e1 e2
  exact h
 | (s,n,p)::t,i+1,lo,hi,h=>by
  rw[List.modify_succ_cons]
  exact⟨h.1,h.2.1,h.2.2.1,gJ.pow hf h.2.2.2⟩
theorem zj {c:Prop}[Decidable c]{n:Nat}(h:1<n):(if c then n-2-1 else n-2)+1<n:=by
 by_cases z:c
 ·rw[if_pos z];omega
 ·rw[if_neg z];omega
theorem FA {α γ:Type}{m:StateT SortSt Sem α}{Q: α->SortSt->Prop}{st:SortSt}(V: γ->StateT SortSt Sem α)(G: γ->SortSt->Prop)(hV:∀z st,G z st->wpS (model prog w) A E s (V z) Q st)
  (hm:(∀z st,G z st->wpS (model prog w) A E s (V z) Q st)->wpS (model prog w) A E s m Q st):wpS (model prog w) A E s m Q st:=hm hV
theorem AH {st:SortSt}{Q:Unit->SortSt->Prop}(hL:iz prog w A E s a₀ key kd)(hT:Tb a₀ kd st)(hp:pendingOf st = #[])
  (h:∀aE,Tb a₀ kd aE->Sg key (arrOf aE) 0 a₀.size->Q () aE):wpS (model prog w) A E s sortRuns' Q st:=by
 have hsz:=hT.perm.size_eq
 rw[sortRuns'_eq]
 refine wpS_bind (wpS_get ?_)
 dsimp -zeta only
 rw[hsz]
 refine wpS_bind (wpS_mono (wpS_forRange
  (I:=fun x c aE=>∃lo,c=(none,lo)/\Tb a₀ kd aE/\gJ key (arrOf aE) 0 (pendingOf aE).toList lo/\lo<=a₀.size/\(x<=lo∨lo=a₀.size))
  (Q:=fun c aE=>c=(none,a₀.size)/\Tb a₀ kd aE/\gJ key (arrOf aE) 0 (pendingOf aE).toList a₀.size) ?step ?fin ⟨0,rfl,hT,by rw[hp];rfl,Um _,.inl (Je _)⟩) ?post)
 case fin=>
  intro c aE
  refine ae.go ?_
  rintro lo rfl t ch h1 h2
  have:lo=a₀.size:=by omega
  subst this
  exact⟨rfl,t,ch⟩
 case post=>
  intro c eQ
  refine ae.go ?_
  rintro rfl t1 ch1
  dsimp only
  refine wpS_bind (wpS_mono (wpS_forRange
   (I:=fun x c aE=>c=(none,())/\Tb a₀ kd aE/\gJ key (arrOf aE) 0 (pendingOf aE).toList a₀.size/\((pendingOf aE).size<=1∨(pendingOf aE).size+x<=a₀.size))
   (Q:=fun c aE=>c=(none,())/\Tb a₀ kd aE/\gJ key (arrOf aE) 0 (pendingOf aE).toList a₀.size/\(pendingOf aE).size<=1) ?step2 ?fin2 ⟨rfl,t1,ch1,.inr (by have:=ch1.le;rw[Jv] at this;omega)⟩) ?post2)
  case fin2=>
   intro c aE
   refine ae.go ?_
   rintro rfl t ch hs
   exact⟨rfl,t,ch,by omega⟩
  case post2=>
   intro c aE
   refine ae.go ?_
   rintro rfl t ch hs
   refine wpS_pure (h aE t ?_)
   cases e:(pendingOf aE).toList with
   | nil=>
    rw[e] at ch
    have ch:0=a₀.size:=ch
    intro p q _ _ h3;omega
   | cons y r=>
    have hl:(pendingOf aE).toList.length<=1:=by rw[Jv];exact hs
    rw[e] at ch hl
    have hr:r=[]:=by
     cases r with
     | nil=>rfl
     | cons _ _=>simp -iota only [J0] at hl;omega
    subst hr
    obtain⟨y1,y2,y3⟩:=y
    obtain⟨_,_,g1,g2⟩:=ch
    have g2:0+y2=a₀.size:=g2
    rw[g2] at g1;exact g1
  case step2=>
   intro x c aE _ hx
   refine ae.go ?_
   rintro rfl t ch hs
   refine wpS_bind (wpS_get ?_)
   by_cases z:(pendingOf aE).size<=1
   ·rw[if_pos z]
    exact wpS_pure ⟨rfl,t,ch,z⟩
   ·rw[if_neg z]
    refine wpS_bind (mX hL t ch (Je _) (zj (by omega)) fun bN t2 ch2 Oj _ =>?_)
    exact wpS_pure ⟨rfl,t2,ch2,by omega⟩
 case step=>
  intro x c eQ _ hx
  refine ae.go ?_
  rintro lo rfl t1 ch1 h1 h2
  dsimp -zeta only
  extract_lets l0 jp fc n2
  refine l4 (fun z =>?_) fun z =>?_
  ·have:lo=a₀.size:=Nat.le_antisymm h1 z
   subst this
   exact wpS_pure ⟨rfl,t1,ch1⟩
  have z:¬lo>=a₀.size:=z
  have tl:∀(n:Nat) (bN:SortSt),Tb a₀ kd bN->1<=n->lo+n<=a₀.size->Sg key (arrOf bN) lo (lo+n)->∀p:Array (Nat×Nat×Nat),gJ key (arrOf bN) 0 p.toList lo ->
    Tb a₀ kd (setPending bN (p.push (lo,n,0)))/\gJ key (arrOf bN) 0 (p.push (lo,n,0)).toList (lo+n):=fun n bN t2 n1 n2 s2 p hp'=>by
   refine⟨⟨t2.perm,t2.kind,t2.failed⟩,?_⟩
   rw[U9]
   exact hp'.app ⟨rfl,n1,s2,rfl⟩
  have af:Af a₀ kd lo eQ eQ:=⟨t1.perm,t1.kind,t1.failed,rfl,fun _ _=>rfl⟩
  have back:∀{bN:SortSt},Af a₀ kd lo eQ bN->Tb a₀ kd bN/\gJ key (arrOf bN) 0 (pendingOf bN).toList lo:=fun{bN} f=>⟨⟨f.perm,f.kind,f.failed⟩,by rw[f.pend];exact ch1.same fun k _ hk=>f.low k hk⟩
  refine FA (fun n:Nat=>jp () n) (fun n bN=>Af a₀ kd lo eQ bN/\1<=n/\lo+n<=a₀.size/\Sg key (arrOf bN) lo (lo+n)) (fun m bN hz =>?_) fun H =>?_
  rotate_left
  ·refine wpS_bind (wX hL (by omega) (by omega) af fun m bN f2 m1 m2 s2 =>?_)
   dsimp only[l0,fc,n2]
   refine l4 (fun zm =>?_) fun zm =>?_
   ·refine wpS_bind (wpS_lift (wpAny_rule ⟨rfl,?_⟩))
    refine wpS_bind (DG hL (by omega) (by omega) f2 s2 fun cN f3 s3 =>?_)
    simp -iota only [Bool.not_true,J9,if_false]
    exact H _ cN ⟨f3,by omega,by omega,s3⟩
   ·exact H _ bN ⟨f2,m1,by omega,s2⟩
  obtain⟨f2,m1,m2,s2⟩:=hz
  have b2:=back f2
  refine wpS_bind (wpS_get ?_)
  dsimp only[l0]
  cases hb:(pendingOf bN).back? with
  | none=>
   dsimp only
   obtain⟨u1,u2⟩:=tl m bN b2.1 m1 m2 s2 (pendingOf bN) b2.2
   exact wpS_bind (wpS_modify (wpS_pure ⟨_,rfl,u1,u2,m2,.inl (by omega)⟩))
  | some y=>
   obtain⟨y1,y2,y3⟩:=y
   dsimp only
   refine wpS_bind (wpS_mono (wpS_forRange
    (I:=fun _ c aE=>c=(none,())/\Tb a₀ kd aE/\gJ key (arrOf aE) 0 (pendingOf aE).toList lo/\Sg key (arrOf aE) lo (lo+m))
    (Q:=fun c aE=>c=(none,())/\Tb a₀ kd aE/\gJ key (arrOf aE) 0 (pendingOf aE).toList lo/\Sg key (arrOf aE) lo (lo+m)) ?step4 (fun _ _ hh=>hh) ⟨rfl,b2.1,b2.2,s2⟩) ?post4)
   case post4=>
    intro c cS
    refine ae.go ?_
    rintro rfl t5 c5 s5
    dsimp only
    have c6:gJ key (arrOf cS) 0 ((pendingOf cS).modify ((pendingOf cS).size-1) fun z=>(z.1,z.2.1,power' a₀.size (2*y1+y2) (2*y1+y2+y2+m) a₀.size)).toList lo:=by
     rw[Array.toList_modify]
     refine gJ.pow (fun _ =>?_) c5
     exact⟨rfl,rfl⟩
    obtain⟨u1,u2⟩:=tl m cS t5 m1 m2 s5 _ c6
    exact wpS_bind (wpS_modify (wpS_bind (wpS_modify (wpS_pure ⟨_,rfl,u1,u2,m2,.inl (by omega)⟩))))
   case step4=>
    intro x5 c cS _ _
    refine ae.go ?_
    rintro rfl t5 c5 s5
    refine wpS_bind (wpS_get ?_)
    by_cases z5:(pendingOf cS).size>1
    ·have Oo:(pendingOf cS).size-2<(pendingOf cS).size:=by omega
     rw[if_pos z5,getElem?_pos (pendingOf cS) ((pendingOf cS).size-2) Oo]
     obtain⟨⟨v1,v2,v3⟩,ev⟩:∃v,(pendingOf cS)[(pendingOf cS).size-2]'Oo=v:=⟨_,rfl⟩
     rw[ev]
     dsimp only
     refine l4 (fun _=>wpS_pure ⟨rfl,t5,c5,s5⟩) fun _ =>?_
     refine wpS_bind (mX hL t5 c5 h1 (by omega) fun jo t6 c6 _ o6 =>?_)
     exact wpS_pure ⟨rfl,t6,c6,tV (fun k hk _=>o6 k hk) s5⟩
    ·rw[if_neg z5]
     exact wpS_pure ⟨rfl,t5,c5,s5⟩
end
section
variable {X:Cx}{pos:Pos}
def wL:TE:=fun _ H Q=>∀p H',dX H p (.dK []) H'->Q (.ref p) H'
theorem xa:PE X (.Dict [] [] pos) wL:=by
 have e:wL=wA:=by
  funext σ H Q
  exact(jQ (F:=fun p H'=>Q (.ref p) H')).symm
 rw[e];exact xR
end
section
variable {X:Cx}
theorem zI:e8 X (binaryOp .Mult) (fun x y H Q=>∃(z:Str) (n:Int),x = .str z/\y = .int n/\MulOk z n/\Q (.str (Txt.mul z n)) H):=by
 intro pins s σ H x y v u Q I rx ry h
 obtain⟨z,n,rfl,rfl,ok,q⟩:=h
 obtain⟨t,rfl⟩:=rx
 obtain⟨t',rfl⟩:=ry
 exact SB.mul ok fun t' k=>⟨.str _,H,I.tok _,⟨_,rfl⟩,q⟩
def Hu:R2:=fun x y H Q=>Bl x y H Q∨∃(z:Str) (n:Int),x = .str z/\y = .int n/\MulOk z n/\Q (.str (Txt.mul z n)) H
theorem DC:e8 X (binaryOp .Mult) Hu:=lV.or zI
theorem gw {z:Str}{n:Int}(h1:z.length<=1000)(h2:n<=1000)(h3: -1000<=n):MulOk z n:=by
 refine⟨?_,fun a _ =>?_,fun a _ =>?_⟩
 ·rw[decide_eq_false (by omega),decide_eq_false (by omega)];rfl
 ·have:(1000:Int)<=(2^63-1) / n:=by
   rw[Int.le_ediv_iff_mul_le (by omega)]
   omega
  omega
 ·have:z.length*n.toNat<=1000*1000:=Nat.mul_le_mul h1 (by omega)
  show decide (_>sizeLine)=false
  simp
  exact Jr this (by decide)
end
noncomputable def oneMore {K:Type}[DecidableEq K](D:List K)(k:K):List K:=if k∈D then D else D++[k]
noncomputable def bP {K:Type}[DecidableEq K](ks:Nat->K):Nat->List K
 | 0=>[]
 | i+1=>oneMore (bP ks i) (ks i)
theorem ic {K:Type}[DecidableEq K](ks:Nat->K):∀i,(bP ks i).length<=i
 | 0=>Je _
 | i+1=>by
  have:=ic ks i
  unfold bP oneMore
  split
  ·omega
  ·rw[Jf];exact Wk this
section
variable {prog:Program}{w:World}{K:Type}[DecidableEq K]{knd:PySem.KeyKind prog w K}
def iT (knd:PySem.KeyKind prog w K)(h:Heap)(a:Addr)(D:List K):Prop:=h.SetOf knd a (fun k=>decide (k∈D)) D.length
theorem iT.at' {h h':Heap}{a:Addr}{D:List K}(x:iT knd h a D)(k:∀o,h.get? a=some o->h'.get? a=some o):iT knd h' a D:=by
 obtain⟨o,es,ep,t,e,r⟩:=x
 exact⟨o,es,ep,t,k _ e,r⟩
variable {A:Around}{R:Result->Shared->Prop}{I:Addr}{fp wr:List Addr}{G:Array GenState->Array GenState->Prop}{n:Nat}{P:Nat->Value->Prop}{St:Nat->Shared->Prop}
end
noncomputable abbrev cz (led:Bool):Obj:={ cls := .type "set",dict:=none,data := .set #[] 0 (.fresh 0 0 led) }
noncomputable def lK (zs:List Str):List Str:=bP (fun i=>zs.getD i Str.empty) zs.length
def Up (xs:List Nat):Prop:=xs.Pairwise (· < ·)
theorem Up.lt {xs:Array Nat}(h:Up xs.toList){i j:Nat}(hj:j<xs.size)(fq:i<j):xs[i]<xs[j]:=by
 have:=Ya.mp h i j (by simpa using Nat.lt_trans fq hj) (by simpa using hj) fq
 simpa using this
structure Cut (xs:Array Nat)(j p:Nat):Prop where
 le:p<=xs.size
 lo:∀i (h:i<xs.size),i<p->xs[i]<j
 hi:∀i (h:i<xs.size),p<=i->j<=xs[i]
theorem kZ {xs:Array Nat}(u:Up xs.toList)(j:Nat):∀(fuel lo hi:Nat),hi-lo<=fuel->lo<=hi->hi<=xs.size->(∀i (h:i<xs.size),i<lo->xs[i]<j)->(∀i (h:i<xs.size),hi<=i->j<=xs[i])->Cut xs j (SetTable.below.go xs j fuel lo hi)
 | 0,lo,hi,hf,hl,hs,h1,h2=>by
  have e:lo=hi:=by omega
  unfold SetTable.below.go
  subst e
  exact⟨hs,h1,h2⟩
 | fuel+1,lo,hi,hf,hl,hs,h1,h2=>by
  unfold SetTable.below.go
  by_cases cF:lo<hi
  ·rw[if_pos cF]
   have hm:(lo+hi) / 2<xs.size:=by omega
   have e:xs.getD ((lo+hi) / 2) j=xs[(lo+hi) / 2]:=by simp[Array.getD,hm]
   dsimp only
   rw[e]
   by_cases hc:xs[(lo+hi) / 2]<j
   ·rw[if_pos hc]
    refine kZ u j fuel _ _ (by omega) (by omega) hs (fun i h gP =>?_) h2
    by_cases q:i=(lo+hi) / 2
    ·subst q;exact hc
    ·exact Nat.lt_trans (u.lt hm (by omega)) hc
   ·rw[if_neg hc]
    refine kZ u j fuel _ _ (by omega) (by omega) (by omega) h1 (fun i h gP =>?_)
    by_cases q:i=(lo+hi) / 2
    ·subst q;omega
    ·have:=u.lt h (show(lo+hi) / 2<i by omega)
     omega
  ·rw[if_neg cF]
   have e:lo=hi:=by omega
   subst e
   exact⟨hs,h1,h2⟩
theorem ff {xs:Array Nat}(u:Up xs.toList)(j:Nat):Cut xs j (SetTable.below xs j):=
 kZ u j _ _ _ (by omega) (Um _) (Je _) (fun i h z=>absurd z (Nat.not_lt_zero _)) fun i h z=>absurd h (by omega)
theorem Cut.next {xs:Array Nat}{p i:Nat}(u:Up xs.toList)(h:i<xs.size)(c:Cut xs (xs[i]+1) p):p=i+1:=by
 have h1:¬p<i+1:=fun z=>by have:=c.hi i h (by omega);omega
 have h2:¬i+1<p:=fun z=>by
  have hs:i+1<xs.size:=by have:=c.le;omega
  have a:=c.lo (i+1) hs z
  have b:=u.lt hs (Nat.lt_succ_self i)
  omega
 omega
def cO (t:SetTable):Prop:=t.dummies = #[]/\Up t.place.toList
theorem rB {a b:Nat}{led:Bool}:cO (SetTable.fresh a b led):=⟨rfl,List.Pairwise.nil⟩
theorem fz (t:SetTable)(n:Nat):cO (t.standIn n):=⟨rfl,by
 show List.Pairwise _ (Array.range n).toList
 rw[Array.toList_range]
 exact List.pairwise_lt_range⟩
theorem has_none (j:Nat):SetTable.has #[] j=false:=by
 unfold SetTable.has
 simp
theorem uJ {t:SetTable}(g:cO t)(j:Nat):t.slot j = .empty∨∃i,t.slot j = .live i:=by
 unfold SetTable.slot
 dsimp only
 split
 ·exact .inr ⟨_,rfl⟩
 ·rw[g.1,has_none]
  exact .inl rfl
theorem vt {t:SetTable}(g:cO t){j:Nat}(h:t.slot j = .empty):j∉t.place.toList:=fun hm=>by
 obtain⟨i,hi,e⟩:=Yq.mp hm
 have gP:i<t.place.size:=by simpa using hi
 have e':t.place[i]=j:=by simpa using e
 have c:=ff g.2 j
 have hp:SetTable.below t.place j=i:=by
  have h1:¬i<SetTable.below t.place j:=fun z=>by have:=c.lo i gP z;omega
  have h2:¬SetTable.below t.place j<i:=fun z=>by
   have hs:SetTable.below t.place j<t.place.size:=by omega
   have a:=c.hi _ hs (Je _)
   have b:=g.2.lt gP z
   omega
  omega
 unfold SetTable.slot at h
 dsimp only at h
 rw[hp,J7 gP,e'] at h
 simp at h
theorem j4 {t:SetTable}(g:cO t){h:Int}{j:Nat}{d:Option Nat}:∀(fuel:Nat) (p:SetTable.Probe),p.dummy=none->SetTable.probe.go t (fun _=>h+1) h fuel p=some (.empty j d)->t.slot j = .empty/\d=none
 | 0,p,hp,e=>by unfold SetTable.probe.go at e;cases e
 | fuel+1,p,hp,e=>by
  unfold SetTable.probe.go at e
  rcases uJ g p.j with q|⟨i,q⟩
  ·rw[q] at e
   dsimp only at e
   cases e
   exact⟨q,hp⟩
  ·rw[q] at e
   dsimp only at e
   rw[if_neg (by rw[beq_iff_eq];omega)] at e
   refine j4 g fuel _ ?_ e
   unfold SetTable.advance
   split
   ·exact hp
   ·exact hp
theorem wz {t:SetTable}(g:cO t){j:Nat}(h:t.slot j = .empty):cO (t.put j).1:=by
 have hn:=vt g h
 have c:=ff g.2 j
 unfold SetTable.put
 refine⟨?_,?_⟩
 ·show(if SetTable.has t.dummies j=true then _ else t.dummies) = #[]
  rw[g.1,has_none,if_neg Ju]
 ·show Up (SetTable.insertAt t.place _ j).toList
  rw[SetTable.toList_insertAt]
  have u:Up t.place.toList:=g.2
  refine J8.mpr ⟨List.Pairwise.sublist (Y5 _ _) u,List.pairwise_cons.mpr ⟨fun x hx =>?_,List.Pairwise.sublist (Wi _ _) u⟩,fun x hx y hy =>?_⟩
  ·obtain⟨i,hi,e⟩:=Yq.mp hx
   rw[List.getElem_drop] at e
   have gP:SetTable.below t.place j+i<t.place.size:=by rw[Ui] at hi;simp at hi;omega
   have:=c.hi _ gP (Uw _ _)
   have e':t.place[SetTable.below t.place j+i]=x:=by simpa using e
   have qO:j≠x:=fun z=>hn (by rw[z];exact Y3 hx)
   omega
  ·have Pd:x<j:=by
    obtain⟨i,hi,e⟩:=Yq.mp hx
    rw[List.getElem_take] at e
    rw[J1] at hi
    have gP:i<t.place.size:=by simp at hi;omega
    have:=c.lo i gP (by omega)
    have e':t.place[i]=x:=by simpa using e
    omega
   rcases Uh.mp hy with rfl|hy
   ·exact Pd
   ·obtain⟨i,hi,e⟩:=Yq.mp hy
    rw[List.getElem_drop] at e
    have gP:SetTable.below t.place j+i<t.place.size:=by rw[Ui] at hi;simp at hi;omega
    have:=c.hi _ gP (Uw _ _)
    have e':t.place[SetTable.below t.place j+i]=y:=by simpa using e
    omega
theorem Al {t:SetTable}(g:cO t)(n:Nat):cO (t.orStandIn n):=by
 unfold SetTable.orStandIn
 split
 ·exact g
 ·exact fz t n
theorem xr {t:SetTable}(g:cO t)(es:Array (Int×Value))(h:Int)(x:Value):cO (layNew t es h x).2.1/\(layNew t es h x).2.1.led=t.led:=by
 unfold layNew
 split
 ·rename_i slot wasDummy hs
  dsimp only
  have sW:t.slot slot = .empty:=by
   unfold SetTable.freeSlot at hs
   split at hs
   ·rename_i j d hp
    unfold SetTable.probe at hp
    obtain⟨h1,h2⟩:=j4 g _ _ rfl hp
    subst h2
    cases hs
    exact h1
   ·cases hs
  refine⟨Al (wz g sW) _,?_⟩
  unfold SetTable.orStandIn
  split<;>rfl
 ·exact⟨fz t _,rfl⟩
theorem kU {β:Type}(f:Nat->Option β):∀l:List Nat,List.Sublist ((l.filterMap fun j=>(f j).map (j, ·)).map (·.1)) l
 | []=>List.Sublist.refl _
 | j::l=>by
  rw[List.filterMap_cons]
  cases f j with
  | none=>exact List.Sublist.cons _ (kU f l)
  | some b=>exact List.Sublist.cons_cons _ (kU f l)
theorem uH {mask finger moves:Nat}{led plain:Bool}{hs:Array Int}{t:SetTable}{order:Array Nat}(e:SetTable.laid mask finger moves led plain hs=some (t,order)):cO t/\t.led=led:=by
 unfold SetTable.laid at e
 cases q:SetTable.layClean mask hs with
 | none=>rw[q] at e;cases e
 | some owner=>
  rw[q] at e
  cases e
  refine⟨⟨rfl,?_⟩,rfl⟩
  exact List.Pairwise.sublist (kU _ _) List.pairwise_lt_range
theorem rS {t:SetTable}(es:Array (Int×Value))(n:Nat):cO (relayAll t es n).2.1/\(relayAll t es n).2.1.led=t.led:=by
 unfold relayAll
 split
 ·rename_i t' order hr
  dsimp only
  split
  ·unfold SetTable.relaid at hr
   exact uH hr
  ·exact⟨fz t _,rfl⟩
 ·exact⟨fz t _,rfl⟩
section
variable {prog:Program}{w:World}{K:Type}[DecidableEq K]{knd:PySem.KeyKind prog w K}{A:Around}{E:Value->Shared->Prop}{s:Shared}{a:Addr}
def iK (w:World)(h:Heap)(a:Addr):Prop:=∃o es ep t,h.get? a=some o/\o.data = .set es ep t/\cO t/\(w.params.followText "set-order" = false->t.led=true)
theorem iK.at' {h h':Heap}(x:iK w h a)(k:∀o,h.get? a=some o->h'.get? a=some o):iK w h' a:=by
 obtain⟨o,es,ep,t,e,r⟩:=x
 exact⟨o,es,ep,t,k _ e,r⟩
def cg (knd:PySem.KeyKind prog w K)(h:Heap)(a:Addr)(D:List K):Prop:=iT knd h a D/\iK w h a
theorem pj {o:Obj}{es:Array (Int×Value)}{ep:Nat}{t:SetTable}(ho:s.heap.get? a=some o)(hd:o.data = .set es ep t){es':Array (Int×Value)}{t':SetTable}(g:cO t')(l:w.params.followText "set-order" = false->t'.led=true):
  (s.heap.update a (Obj.putSet es' t')).get? a=some { o with data := .set es' (ep+1) t' } /\ iK w (s.heap.update a (Obj.putSet es' t')) a:=by
 have e:=Ux (Obj.putSet es' t') ho (by rw[putSet_of es' t' hd];rfl)
 rw[putSet_of es' t' hd] at e
 exact⟨e,_,_,_,_,e,rfl,g,l⟩
theorem qX {D:List K}{k:K}{x:Value}{Q:Bool->Shared->Prop}(hk:knd.is k x=true)(hx:x.scannable=true)(S:cg knd s.heap a D)(room:D.length+1<scanBound)
  (fin:∀b h',Y0 a s.heap h'->cg knd h' a (oneMore D k)->Q b { s with heap:=h' }):wpAny (model prog w) A (setAddHashed a x (knd.hash k)) Q E s:=by
 obtain⟨HK,o',es',ep',t',ho',hd',gt',ld'⟩:=S
 obtain⟨o,es,ep,t,ho,ex,hd,el,mem,bnd,fit,len⟩:=id HK
 obtain⟨gt,ld⟩:cO t/\(w.params.followText "set-order" = false->t.led=true):=by
  rw[ho] at ho';cases ho'
  rw[hd] at hd';cases hd'
  exact⟨gt',ld'⟩
 have OU:=byScan_of hx bnd el
 unfold setAddHashed setAddHashedIn setAddByScan
 refine wpAny_holding (wpAny_bind (wpAny_setState_of ho hd fit ?_))
 dsimp only
 rw[OU,if_pos rfl]
 refine wpAny_bind (wpAny_bind (wpAny_rule (wpAny_bind (wpAny_setScan_of hk ho hd fit el ?_))))
 have Fo:∀(b:Bool) {s1:Shared} {Q':Unit->Shared->Prop},Q' () s1->wpAny (model prog w) A (match b with|true=>rule "set.scan.the-table-gave-way" | false=>pure ()) Q' E s1:=fun b s1 Q' q=>by
  cases b
  ·exact wpAny_pure q
  ·exact wpAny_rule q
 cases hr:es.toList.findIdx? (fun e=>knd.is k e.2) with
 | some j=>
  obtain⟨hj,hp,_⟩:=List.findIdx?_eq_some_iff_getElem.mp hr
  have kO:k∈D:=of_decide_eq_true ((mem k).mpr ⟨_,Jo hj,hp⟩)
  refine wpAny_pure (wpAny_pure ?_)
  have q:=fin false s.heap (Y0.refl a s.heap) (by
   unfold oneMore
   rw[if_pos kO]
   exact⟨HK,_,_,_,_,ho,hd,gt,ld⟩)
  exact q
 | none=>
  have lQ:k∉D:=fun z=>by
   obtain⟨e,he,hp⟩:=(mem k).mp (decide_eq_true z)
   have:=List.findIdx?_eq_none_iff.mp hr e he
   rw[hp] at this;cases this
  have more:∀k',decide (k'∈oneMore D k)=(decide (k'∈D)||decide (k'=k)):=fun k'=>by
   unfold oneMore
   rw[if_neg lQ]
   simp[Bool.decide_or]
  obtain⟨g1,l1⟩:=xr gt es (knd.hash k) x
  have pm:=layNew_perm t es (knd.hash k) x
  have ft:=layNew_fits t es (knd.hash k) x
  dsimp only
  generalize layNew t es (knd.hash k) x=L at g1 l1 pm ft ⊢
  obtain⟨es1,t1,dummy,gv⟩:=L
  dsimp only at g1 l1 pm ft ⊢
  rw[U9] at pm
  have Nf:ElemsOf knd es1.toList:=(el.push hk hx).perm pm
  have Hb:∀k',decide (k'∈oneMore D k)=true ↔ ∃e∈es1.toList,knd.is k' e.2=true:=fun k'=>by
   rw[more];exact mem_push_iff hk mem pm k'
  have NC:es1.size=(oneMore D k).length:=by
   unfold oneMore
   rw[if_neg lQ,<-Jv,pm.length_eq,Jf,Jf,Jv,len];rfl
  have Ql:(oneMore D k).length=D.length+1:=by
   unfold oneMore
   rw[if_neg lQ,Jf];rfl
  have Ft:es1.size<scanBound:=by omega
  have KZ:w.params.followText "set-order" = false->t1.led=true:=fun z=>l1.trans (ld z)
  have tail:∀t2:SetTable,cO t2->(w.params.followText "set-order" = false->t2.led=true)->t2.fits es1.size=true->∀c:Bool,
    wpAny (model prog w) A (do
     storeSet a es1 t2
     if c=true then do
       (match (relayAll t2 es1 (SetTable.grown es1.size)).2.2 with|true=>rule "set.scan.the-table-gave-way" | false=>pure ())
       storeSet a (relayAll t2 es1 (SetTable.grown es1.size)).1 (relayAll t2 es1 (SetTable.grown es1.size)).2.1
       pure (some true)
      else pure (some true)) (fun r s'=>r=some true/\∃h',s'={ s with heap:=h' } /\ Y0 a s.heap h'/\cg knd h' a (oneMore D k)) E s:=by
   intro t2 g2 ld2 ft2 c
   refine wpAny_bind (wpAny_storeSet_of ho hd ?_ (fits_of_scanBound Ft))
   obtain⟨e1,gs1⟩:=pj (es':=es1) ho hd g2 ld2
   have Eb:=Y0.update s.heap a (Obj.putSet es1 t2)
   cases c with
   | false=>
    rw[if_neg Ju]
    exact wpAny_pure ⟨rfl,_,rfl,Eb,⟨_,_,_,_,e1,ex,rfl,Nf,Hb,Ft,ft2,NC⟩,gs1⟩
   | true=>
    rw[if_pos rfl]
    have Ea:=relayAll_perm t2 es1 (SetTable.grown es1.size)
    have My:=relayAll_fits t2 es1 (SetTable.grown es1.size)
    obtain⟨g3,l3⟩:=rS (t:=t2) es1 (SetTable.grown es1.size)
    generalize relayAll t2 es1 (SetTable.grown es1.size)=L2 at Ea My g3 l3 ⊢
    obtain⟨es2,t3,gv2⟩:=L2
    dsimp only at Ea My g3 l3 ⊢
    have Oj:es2.size=es1.size:=by rw[<-Jv,Ea.length_eq,Jv]
    refine wpAny_bind (Fo _ ?_)
    refine wpAny_bind (wpAny_storeSet_of e1 rfl ?_ (fits_of_scanBound (by omega)))
    obtain⟨e2,gs2⟩:=pj (s:={ s with heap:=s.heap.update a (Obj.putSet es1 t2) }) (es':=es2) e1 rfl g3 (fun z=>l3.trans (ld2 z))
    refine wpAny_pure ⟨rfl,_,rfl,Eb.trans (Y0.update _ a _),⟨_,_,_,_,e2,ex,rfl,Nf.perm Ea,fun k'=>(Hb k').trans ⟨fun hz_=>ae.el hz_ _ fun e he q=>⟨e,Ea.mem_iff.mpr he,q⟩,fun hz_=>ae.el hz_ _ fun e he q=>⟨e,Ea.mem_iff.mp he,q⟩⟩,by omega,My,Oj.trans NC⟩,gs2⟩
  have out:∀(r:Option Bool) s',(r=some true/\∃h',s'={ s with heap:=h' } /\ Y0 a s.heap h'/\cg knd h' a (oneMore D k))->wpAny (model prog w) A (match r with|some added=>pure added|none=>setAddHashedIn a x (knd.hash k) 99999) Q E s':=by
   rintro r s' ⟨rfl,h',rfl,sb,sk⟩
   exact wpAny_pure (fin true h' sb sk)
  refine wpAny_bind (Fo _ ?_)
  cases oY:t1.plain with
  | false=>
   rw[if_neg Ju]
   refine wpAny_bind (wpAny_pure ?_)
   rw[if_pos rfl]
   exact wpAny_mono (tail t1 g1 KZ ft _) (fun r s' q=>out r s' q) fun _ _ z=>z
  | true=>
   rw[if_pos rfl]
   refine wpAny_bind ?_
   rw[hashByValue_scannable 8 hx]
   refine wpAny_pure ?_
   cases plainKind x with
   | true=>
    rw[if_pos rfl]
    exact wpAny_mono (tail t1 g1 KZ ft _) (fun r s' q=>out r s' q) fun _ _ z=>z
   | false=>
    rw[if_neg Ju]
    exact wpAny_mono (tail { t1 with plain:=false } g1 KZ (SetTable.fits_plain_off ft) _) (fun r s' q=>out r s' q) fun _ _ z=>z
theorem cg.at' {D:List K}{h h':Heap}(x:cg knd h a D)(k:∀o,h.get? a=some o->h'.get? a=some o):cg knd h' a D:=⟨x.1.at' k,x.2.at' k⟩
end
noncomputable def Ah:PyData->Str
 | .str x=>x
 | d=>d.shown
section
variable {X:Cx}{pins:List (Addr×Obj)}{σ:St}{H:Hp}{s:Shared}
mutual
theorem mM (I:Inv X pins σ H s):∀(d:PyData) (x:V) (u:Value),Den X.K H d x->RelV x u->∃as,Reads s.heap u d as
 | .none,x,u,h,r=>by unfold Den at h;subst h;cases r;exact⟨_,.none⟩
 | .bool b,x,u,h,r=>by unfold Den at h;subst h;cases r;exact⟨_,.bool b⟩
 | .int i,x,u,h,r=>by unfold Den at h;subst h;obtain⟨t,rfl⟩:=r;exact⟨_,.int i t⟩
 | .str y,x,u,h,r=>by unfold Den at h;subst h;obtain⟨t,rfl⟩:=r;exact⟨_,.str y t⟩
 | .list ds,x,u,h,r=>by
  unfold Den at h
  obtain⟨a,vs,rfl,h1,h2⟩:=h
  cases r
  obtain⟨ay,rv,pl,hz⟩:=I.list h1
  obtain⟨o,e1,e2,n,e3⟩:=pl.isList
  obtain⟨bs,hb⟩:=ip I ds vs ay h2 rv
  exact⟨_,.list e1 e2 e3 (by simpa using hb)⟩
 | .tuple ds,x,u,h,r=>by
  unfold Den at h
  obtain⟨a,vs,rfl,h1,h2⟩:=h
  cases r
  obtain⟨ay,rv,⟨o,e1,e2,n,e3⟩,hz⟩:=I.tuple h1
  obtain⟨bs,hb⟩:=ip I ds vs ay h2 rv
  exact⟨_,.tuple e1 e2 e3 (by simpa using hb)⟩
 | .dict _,x,u,h,r=>by unfold Den at h;exact h.elim
theorem ip (I:Inv X pins σ H s):∀(ds:List PyData) (vs:List V) (us:List Value),aB X.K H ds vs->Vals vs us->∃as,ReadsAll s.heap us ds as
 | [],vs,us,h,r=>by unfold aB at h;subst h;cases r;exact⟨_,.nil⟩
 | d::ds,vs,us,h,r=>by
  unfold aB at h
  obtain⟨v,vr,rfl,h1,h2⟩:=h
  cases r with
  | cons r1 r2=>
   obtain⟨as,ha⟩:=mM I d _ _ h1 r1
   obtain⟨bs,hb⟩:=ip I ds _ _ h2 r2
   exact⟨_,.cons ha hb⟩
end
mutual
theorem nodict {K:Jb}{H:Hp}:∀(d:PyData) (x:V),Den K H d x->d.hasDict=false
 | .none,_,_=>rfl
 | .bool _,_,_=>rfl
 | .int _,_,_=>rfl
 | .str _,_,_=>rfl
 | .list ds,x,h=>by
  unfold Den at h
  obtain⟨a,vs,_,_,h2⟩:=h
  simp only[PyData.hasDict]
  exact oH ds vs h2
 | .tuple ds,x,h=>by
  unfold Den at h
  obtain⟨a,vs,_,_,h2⟩:=h
  simp only[PyData.hasDict]
  exact oH ds vs h2
 | .dict _,x,h=>by unfold Den at h;exact h.elim
theorem oH {K:Jb}{H:Hp}:∀(ds:List PyData) (vs:List V),aB K H ds vs->PyData.hasDictAll ds=false
 | [],_,_=>rfl
 | d::ds,vs,h=>by
  unfold aB at h
  obtain⟨v,r,_,h1,h2⟩:=h
  simp only[PyData.hasDictAll,nodict d v h1,oH ds r h2,Bool.or_false]
end
def LI (K:Jb):List V->Hp->VK->Prop:=fun xs H Q=>cq fun(x:V) (d:PyData)=>xs=[x]/\Den K H d x/\d.showable=true/\d.depth<=40/\d.shown.length<=sizeLine/\Q (.str (Ah d)) H
theorem DE (K:Jb)(hg:X.A.guards=some [])(hu:X.A.units+64<cLine)(hK:X.K=K:=by rfl):cj X (.type "str") (LI K):=by
 subst hK
 intro pins s σ H xs us Q I r h
 obtain⟨x,d,rfl,hd,hs,hp,hz,q⟩:=h
 obtain⟨u,rfl,ru⟩:=vals1 r
 have nd:=nodict d x hd
 obtain⟨as,rd⟩:=mM I d x u hd ru
 cases d with
 | none=>cases rd;exact PySem.P.str_of_none ⟨.str _,H,I.tok _,⟨_,rfl⟩,q⟩
 | bool b=>cases rd;exact PySem.P.str_of_bool ⟨.str _,H,I.tok _,⟨_,rfl⟩,q⟩
 | int i=>
  cases rd
  refine PySem.P.str_of_int (by simpa [PyData.showable] using hs) ⟨.str _,H,I.tok _,⟨_,rfl⟩,q⟩
 | str y=>cases rd;exact PySem.P.str_of_str ⟨.str _,H,I,⟨_,rfl⟩,q⟩
 | list ds=>
  have Dc:∃a,u = .ref a:=by cases rd;exact⟨_,rfl⟩
  obtain⟨a,rfl⟩:=Dc
  exact str_of_reads rd hs (fun z=>by rw[nd] at z;cases z) hg (by omega) (fun _ _ e=>e) (fun h' u' tk k=>⟨.str _,H,I.kept k,⟨_,rfl⟩,q⟩) hz
 | tuple ds=>
  have Dc:∃a,u = .ref a:=by cases rd;exact⟨_,rfl⟩
  obtain⟨a,rfl⟩:=Dc
  exact str_of_reads rd hs (fun z=>by rw[nd] at z;cases z) hg (by omega) (fun _ _ e=>e) (fun h' u' tk k=>⟨.str _,H,I.kept k,⟨_,rfl⟩,q⟩) hz
 | dict _=>unfold Den at hd;exact hd.elim
end
structure CM (P:Program)(w:World)(K:Type)[DecidableEq K] where
 knd:PySem.KeyKind P w K
 v:K->V
 ok:∀k u,RelV (v k) u->knd.is k u=true/\u.scannable=true
noncomputable def zH (P:Program)(w:World):CM P w Str:=⟨strKind P w,V.str,fun k u r=>by obtain⟨t,rfl⟩:=r;exact⟨strKind_is _ _ _ _,rfl⟩⟩
noncomputable def wa {P:Program}{w:World}{K:Type}[DecidableEq K](kv:CM P w K)(a:Addr)(D:List K):HO := .ext fun h=>cg kv.knd h a D
theorem zg {P:Program}{w:World}{K:Type}[DecidableEq K]{kv:CM P w K}{a:Addr}{D:List K}{H:Hp}{h:Heap}(x:cg kv.knd h a D):bF P w H h a (wa kv a D):=by
 have x':=x.1
 obtain⟨o,es,ep,t,e,rest⟩:=x'
 exact⟨x,⟨o,e⟩,fun h1 h2 y k=>cg.at' y k⟩
theorem sI {prog:Program}{w:World}{K:Type}[DecidableEq K]{knd:PySem.KeyKind prog w K}{h:Heap}{a:Addr}{led:Bool}(e:h.get? a=some (cz led)):iT knd h a []:=by
 have z:=(setObjOf_fresh (knd:=knd) led).setOf e (by decide)
 have q:(fun k:K=>decide (k∈([]:List K)))=fun _=>false:=by funext k;simp
 show Heap.SetOf knd _ _ (fun k=>decide (k∈([]:List K))) 0
 rw[q]
 exact z
theorem rQ {prog:Program}{w:World}{K:Type}[DecidableEq K]{knd:PySem.KeyKind prog w K}{h:Heap}{a:Addr}{led:Bool}(l:w.params.followText "set-order" = false->led=true)(e:h.get? a=some (cz led)):cg knd h a []:=⟨sI e,_,_,_,_,e,rfl,rB,l⟩
section
variable {X:Cx}
theorem zi {x:Str}{z:Str}{t:Tok}{pos:Pos}(hg:Gl X x)(hm:X.mg x=some (.str z t))(hd:(x==("__debug__" : Str))=false:=by decide):PE X (.Name x pos) (tC (.str z)):=sO (v := .str z) hg hm ⟨t,rfl⟩ hd
end
theorem nL:∀{ss:List Str} {us:List Value},StrsAre us ss->Vals (ss.map V.str) us:=by
 intro ss us h
 induction h with
 | nil=>exact .nil
 | cons _ _ _ ih=>exact .cons ⟨_,rfl⟩ ih
section
variable {X:Cx}
theorem EU:e8 X (compareOp .In) (fun x y H Q=>∃a b:Str,x = .str a/\y = .str b/\Q (.bl (Txt.contains b a)) H):=by
 intro pins s σ H x y v u Q I rx ry h
 obtain⟨a,b,rfl,rfl,q⟩:=h
 obtain⟨t,rfl⟩:=rx
 obtain⟨t',rfl⟩:=ry
 exact PySem.P.in_str ⟨.bl _,H,I,rfl,q⟩
end
open PySem.W
section
variable {X:Cx}{H Hj:Hp}{s sj:Shared}{pins:List (Addr×Obj)}{σ:St}
structure Run (X:Cx)(H:Hp)(s:Shared)(Hj:Hp)(sj:Shared):Prop where
 un:Un (nq X.stack) [] H Hj s.heap sj.heap
 bb:fK X.prog X.w Hj sj.heap
 os:sj.os=s.os
 bare:AllBare sj.gens
theorem Run.inv (r:Run X H s Hj sj)(I:Inv X pins σ H s):Inv X pins σ Hj sj:=I.tw (ch:=[]) r.os r.un r.bb r.bare fun _ z=>by cases z
theorem Run.start (I:Inv X pins σ H s):Run X H s H s:=⟨Un.refl,I.bb,rfl,I.bare⟩
theorem Run.kept {h':Heap}(r:Run X H s Hj sj)(k:∀b u,sj.heap.get? b=some u->h'.get? b=some u):Run X H s Hj { sj with heap:=h' }:=⟨r.un.trans (Un.kept k),r.bb.kept k,r.os,r.bare⟩
theorem Run.alter {h':Heap}{b:Addr}(r:Run X H s Hj sj)(hb:s.heap.get? b=none)(hn:Hj b=none)(k:∀c u,c≠b->sj.heap.get? c=some u->h'.get? c=some u):Run X H s Hj { sj with heap:=h' }:=by
 have ne:∀{c:Addr} {o:Obj},s.heap.get? c=some o->c≠b:=fun e z=>by rw[z,hb] at e;cases e
 refine⟨⟨fun c o q n h1 h2=>k c o (ne q) (r.un.keep c o q n h1 h2),fun c o q n h1 h2 =>?_,r.un.free,fun c o q h1 =>?_,r.un.gb,r.un.fj,r.un.fR⟩,fun a o e=>(r.bb a o e).lW (fun c u hc q=>k c u ?_ q) (fun _ q=>q) fun _ _ q=>q,r.os,r.bare⟩
 ·obtain⟨sl,e⟩:=r.un.slot c o q n h1 h2
  exact⟨sl,k c _ (ne q) e⟩
 ·obtain⟨o',e⟩:=r.un.there c o q h1
  exact⟨o',k c _ (ne q) e⟩
 ·rintro rfl
  rcases hc with rfl|hc
  ·rw[hn] at e;cases e
  ·rw[hn] at hc;cases hc
theorem Run.told {b:Addr}{o:HO}(r:Run X H s Hj sj)(hb:s.heap.get? b=none)(hn:Hj b=none)(new:bF X.prog X.w (upd Hj b o) sj.heap b o):Run X H s (upd Hj b o) sj:=by
 have ne:∀{c:Addr} {o:Obj},s.heap.get? c=some o->c≠b:=fun e z=>by rw[z,hb] at e;cases e
 have hH:∀{c:Addr} {q:HO},Hj c=some q->c≠b:=fun e z=>by rw[z,hn] at e;cases e
 refine⟨⟨r.un.keep,r.un.slot,fun c o q n h1=>by rw[ak (ne q)];exact r.un.free c o q n h1,r.un.there,fun c xs q =>?_,fun c o u q =>?_,fun c ps q =>?_⟩,fun a u e =>?_,r.os,r.bare⟩
 ·have:=r.un.gb c xs q;rw[ak (hH this)];exact this
 ·have:=r.un.fj c o u q;rw[ak (hH this)];exact this
 ·obtain⟨more,e⟩:=r.un.fR c ps q
  exact⟨more,by rw[ak (hH e)];exact e⟩
 ·by_cases z:a=b
  ·subst z;rw[ax] at e;cases e;exact new
  ·rw[ak z] at e
   exact(r.bb a u e).lW (fun _ _ _ q=>q) (fun c q=>by rw[ak (hH q)];exact q) fun c xs q=>by rw[ak (hH q)];exact q
theorem Run.called {Q:VK}{u:Value}{s':Shared}(r:Run X H s Hj sj)(c:CE X.stack X.prog X.w Hj sj Q u s'):∃v H',Run X H s H' s'/\RelV v u/\Q v H'/\Un (nq X.stack) [] Hj H' sj.heap s'.heap:=by
 obtain⟨v,H',os,bare,un,bb,rv,q⟩:=c
 exact⟨v,H',⟨r.un.trans un,bb,os.trans r.os,bare⟩,rv,q,un⟩
end
def wK (X:Cx)(f:Value)(r:V->Hp->VK->Prop):Prop:=
 ∀ ⦃pins:List (Addr×Obj)⦄ (s:Shared) (σ:St) (H:Hp) (x:V) (u:Value) (Q:VK),Inv X pins σ H s->RelV x u->r x H Q ->
  wpAny (model X.prog X.w) X.A.in1.in1 (call f [u]) (CE X.stack X.prog X.w H s Q) (fun _ _=>False) s
theorem DV {X:Cx}{k:Nat}{f:Addr}{fd:FuncData}{ps:List Str}{sp:Sp}(F:bW X.prog X.w X.K X.mg X.base fI k f fd ps sp)(hr:dM (k+2) X.A)(hb:Binds X.K fd ps []):wK X (.ref f) fun x H Q=>sp [x] H Q E0:=by
 intro pins s σ H x u Q I rx h
 have rv:Vals [x] [u] := .cons rx .nil
 have hl:([u]++([]:List Value)).length=ps.length:=F.len _ _ _ _ h
 have b:=hb s [u] I.oW hl
 rw[U6] at b
 refine wpAny_call (codeAny_mono (F.run X.A.in1.in1 X.stack s H ⟨[u],[]⟩ [u] [x] Q E0 hr.in1.in1 I.Dj.in1.in1 b rv h) fun r s' hq =>?_)
 cases r with
 | error e=>exact hq.elim
 | ok fl=>cases fl with
  | ret u=>exact hq
  | next=>exact False.elim hq
  | brk=>exact False.elim hq
  | cont=>exact False.elim hq
def fO (a b:Str):Prop:=a.length<b.length∨(a.length=b.length/\a.cps.toList<b.cps.toList)
instance (a b:Str):Decidable (fO a b):=by unfold fO;infer_instance
theorem zK {x y:Str}(h:x.cps.toList=y.cps.toList):x=y:=by
 cases x;cases y;congr 1;exact Array.toList_inj.mp h
theorem jx (a:Str):¬fO a a:=fun h=>by
 rcases h with h|⟨_,h⟩
 ·omega
 ·exact List.lt_irrefl _ h
theorem rL {a b c:Str}(h1:fO a b)(h2:fO b c):fO a c:=by
 rcases h1 with h1|⟨e1,h1⟩<;>rcases h2 with h2|⟨e2,h2⟩
 ·exact .inl (by omega)
 ·exact .inl (by omega)
 ·exact .inl (by omega)
 ·exact .inr ⟨by omega,List.lt_trans h1 h2⟩
theorem zX {a b:Str}(h:a≠b):fO a b∨fO b a:=by
 by_cases h1:a.length<b.length
 ·exact .inl (.inl h1)
 by_cases h2:b.length<a.length
 ·exact .inr (.inl h2)
 by_cases h3:a.cps.toList<b.cps.toList
 ·exact .inl (.inr ⟨by omega,h3⟩)
 ·refine .inr (.inr ⟨by omega,?_⟩)
  rcases List.le_iff_lt_or_eq.mp (List.not_lt.mp h3) with z|z
  ·exact z
  ·exact absurd (zK z).symm h
noncomputable def rk (L:List Str)(t:Str):Nat:=L.countP fun u=>decide (fO u t)
theorem mB {α:Type}{p q: α->Bool}:∀{L:List α} {t: α},(∀v∈L,p v=true->q v=true)->t∈L->q t=true->p t=false->L.countP p<L.countP q
 | [],_,_,m,_,_=>by cases m
 | v::L,t,h,m,h1,h2=>by
  have hle:L.countP p<=L.countP q:=List.countP_mono_left fun v hv=>h v (Jn _ hv)
  rw[List.countP_cons,List.countP_cons]
  rcases Uh.mp m with rfl|m
  ·rw[h1,h2];simp;omega
  ·have:=mB (fun v hv=>h v (Jn _ hv)) m h1 h2
   by_cases hp:p v=true
   ·rw[hp,h v Jq hp];simp;omega
   ·rw[if_neg hp];omega
theorem Be {L:List Str}{t u:Str}(ht:t∈L)(h:fO t u):rk L t<rk L u:=
 mB (fun v _ hv=>decide_eq_true (rL (of_decide_eq_true hv) h)) ht (decide_eq_true h) (decide_eq_false (jx t))
theorem wY {L:List Str}{t u:Str}(ht:t∈L)(hu:u∈L):fO t u↔rk L t<rk L u:=by
 refine⟨Be ht,fun h =>?_⟩
 by_cases e:t=u
 ·subst e;omega
 rcases zX e with z|z
 ·exact z
 ·have:=Be hu z;omega
noncomputable def iR (H:Hp)(v:Value):Str:=match v with
 | .ref q=>match H q with
  | some (.tup [_,.str t])=>t
  | _=>⟨#[]⟩
 | _=>⟨#[]⟩
noncomputable def zP (H:Hp)(L:List Str)(p:Keyed):Int:=rk L (iR H p.1)
def eR (H:Hp)(t:Str)(v:Value):Prop:=∃q,v = .ref q/\H q=some (.tup [.int t.length,.str t])
theorem eR.txt {H:Hp}{t:Str}{v:Value}(h:eR H t v):iR H v=t:=by
 obtain⟨q,rfl,e⟩:=h
 unfold iR;simp only[e]
theorem eR.obj {P:Program}{w:World}{H:Hp}{t:Str}{v:Value}{h:Heap}(k:eR H t v)(ok:fK P w H h):∃q o n t1 t2,v = .ref q/\h.get? q=some o/\o.cls = .type "tuple" /\ o.data = .seq #[.int t.length t1,.str t t2] n:=by
 obtain⟨q,rfl,e⟩:=k
 obtain⟨_,ay,r,o,e1,c,n,d⟩:=ok q _ e
 obtain⟨w1,w2,rfl,⟨t1,rfl⟩,⟨t2,rfl⟩⟩:=vals2 r
 exact⟨q,o,n,t1,t2,rfl,e1,c,d⟩
noncomputable abbrev mV:SortKind:=tuples' (Value.type "int" != Value.type "tuple")
section
variable {prog:Program}{w:World}{A:Around}{E:Value->Shared->Prop}{s:Shared}
theorem Cf {H:Hp}{L:List Str}{a₀:Array Keyed}(ok:fK prog w H s.heap)(h0:∀x∈a₀.toList,∃t,t∈L/\eR H t x.1):iz prog w A E s a₀ (zP H L) mV:=fun st x y Q hx hy hk q=>by
 refine ae.el (h0 x hx) _ ?_
 rintro t mt kt
 refine ae.el (h0 y hy) _ ?_
 rintro u mu ku
 have q':Q (some (decide (fO t u))) st:=by
  have e:decide (zP H L x<zP H L y)=decide (fO t u):=decide_eq_decide.mpr (by unfold zP;rw[kt.txt,ku.txt,Int.ofNat_lt];exact(wY mt mu).symm)
  rw[e] at q;exact q
 clear q
 refine ae.el (kt.obj ok) _ ?_
 rintro q1 o1 n1 t1 t2 e1 g1 _ d1
 refine ae.el (ku.obj ok) _ ?_
 rintro q2 o2 n2 u1 u2 e2 g2 _ d2
 rw[lt'_eq]
 refine wpS_bind (wpS_get ?_)
 rw[hk,e1,e2]
 refine wpS_bind (wpS_lift (wpAny_attempt (wpAny_mono (kat_lt g1 d1 g2 d2 (Q:=fun b s'=>b=decide (fO t u)/\s'=s) ?_) (fun b s' hb =>?_) (fun _ _ z=>False.elim z))))
 ·show KatLex _ _ _ _ _ _ [(_,_),(_,_)] 0 s
  refine kat_cons (wpAny_eqBool_int ?_)
  by_cases c:t.length=u.length
  ·rw[show((t.length:Int)==(u.length:Int))=true by simp -iota [c]]
   refine kat_yes (kat_cons (wpAny_eqBool_str ?_))
   by_cases d:t=u
   ·rw[decide_eq_true d]
    refine kat_yes (kat_nil ⟨?_,rfl⟩)
    subst d
    exact(decide_eq_false (jx t)).symm
   ·rw[decide_eq_false d]
    refine kat_no (kat_one _ _ (lt_str ?_))
    refine⟨?_,rfl⟩
    refine decide_eq_decide.mpr ⟨fun z =>.inr ⟨c,z⟩,fun z =>?_⟩
    rcases z with z|z
    ·omega
    ·exact z.2
  ·rw[show((t.length:Int)==(u.length:Int))=false by simp;omega]
   refine kat_no (oneLt_int ⟨?_,rfl⟩)
   refine decide_eq_decide.mpr ⟨fun z =>.inl (by omega),fun z =>?_⟩
   rcases z with z|z
   ·omega
   ·exact absurd z.1 c
 ·obtain⟨rfl,rfl⟩:=hb
  exact⟨rfl,wpS_pure q'⟩
end
section
variable {X:Cx}{H:Hp}{s0:Shared}{pins:List (Addr×Obj)}{σ:St}{D kS:Addr}{ts:List Str}{vs:List Value}
structure Kj (X:Cx)(H:Hp)(s0:Shared)(D kS:Addr)(e1:Nat)(ts:List Str)(Hj:Hp)(ks:List Value)(sj:Shared):Prop where
 run:Run X H s0 Hj sj
 same:aj H Hj
 dn:Hj D=none
 kn:Hj kS=none
 d0:s0.heap.get? D=none
 k0:s0.heap.get? kS=none
 ne:kS≠D
 dat:sj.heap.get? D=some (seqObj "list" #[] e1)
 kat:∃e,sj.heap.get? kS=some (seqObj "list" ks.toArray e)
 keys:Paired (eR Hj) ts ks
theorem rR {α β:Type}{R: α -> β->Prop}{a: α}{b: β}:∀{l₁:List α} {l₂:List β},Paired R l₁ l₂->R a b->Paired R (l₁++[a]) (l₂++[b]):=by
 intro l₁ l₂ t h
 induction t with
 | nil=>exact .cons h .nil
 | cons r _ ih=>exact .cons r ih
theorem Bs (I:Inv X pins σ H s0){b:Addr}(h:s0.heap.get? b=none):b∉nq X.stack:=fun hb=>by
 refine ae.el (I.stack.mem hb) _ ?_
 rintro _ o e _
 rw[h] at e;cases e
theorem eR.new {H H':Hp}{t:Str}{v:Value}{q:Addr}{o:HO}(k:eR H t v)(n:dX H q o H'):eR H' t v:=by
 obtain⟨a,rfl,e⟩:=k
 exact⟨a,rfl,n.same _ _ e⟩
theorem Kj.more {e1:Nat}{Hj:Hp}{ks:List Value}{sj s':Shared}{t:Str}{u:Value}(I:Inv X pins σ H s0)(k:Kj X H s0 D kS e1 ts Hj ks sj)(hz:ks.length<sizeLine)
  (c:CE X.stack X.prog X.w Hj sj (fun v H'=>∃q,v = .ref q/\dX Hj q (.tup [.int t.length,.str t]) H') u s') :
  ∃e,s'.heap.get? kS=some (seqObj "list" ks.toArray e)/\∃Hi,Kj X H s0 D kS e1 (ts++[t]) Hi (ks++[u]) { s' with heap:=s'.heap.update kS (Obj.mapSeq (·.push u)) }:=by
 obtain⟨v,H',r',rv,⟨q,rfl,n⟩,un⟩:=k.run.called c
 cases rv
 obtain⟨e,hk⟩:=k.kat
 have nd:=un.keep D _ k.dat k.dn (Bs I k.d0) (by simp)
 have nk:=un.keep kS _ hk k.kn (Bs I k.k0) (by simp)
 have fd:=un.free D _ k.dat k.dn (by simp)
 have fk:=un.free kS _ hk k.kn (by simp)
 refine⟨e,nk,H',?_⟩
 refine⟨r'.alter k.k0 fk fun c u hc q=>by rw[Yv _ _ _ _ hc];exact q,fun a o z=>n.same _ _ (k.same a o z),fd,fk,k.d0,k.k0,k.ne,?_,?_,?_⟩
 ·show(s'.heap.update _ _).get? D=_
  rw[Yv _ _ _ _ k.ne.symm];exact nd
 ·have ea:ks.toArray.push (Value.ref q)=List.toArray (ks++[.ref q]):=by simp
  exact⟨_,by rw[<-ea];exact get?_update_seq nk (·.push (Value.ref q))⟩
 ·exact rR (Paired.imp' (fun a b z=>eR.new z n) k.keys) ⟨q,rfl,n.at⟩
theorem lB {Hn:Hp}:∀{ts:List Str} {ks vs:List Value},Paired (eR Hn) ts ks->Vals (ts.map V.str) vs->(ks.zip vs).map (fun p=>iR Hn p.1)=ts/\∀p∈ks.zip vs,∃t,t∈ts/\eR Hn t p.1/\RelV (.str t) p.2
 | [],_,_,.nil,.nil=>⟨rfl,fun _ h=>by cases h⟩
 | t::ts,_,_,.cons r a,.cons q b=>by
  obtain⟨e,m⟩:=lB a b
  refine⟨?_,fun p hp =>?_⟩
  ·rw[List.zip_cons_cons,Uj,e]
   show iR Hn _::ts=_
   rw[r.txt]
  ·rw[List.zip_cons_cons] at hp
   rcases Uh.mp hp with rfl|hp
   ·exact⟨t,Jq,r,q⟩
   ·obtain⟨t,h1,h2⟩:=m p hp
    exact⟨t,Jn _ h1,h2⟩
theorem pS {Hn:Hp}:∀{l:List Keyed},(∀p∈l,RelV (.str (iR Hn p.1)) p.2)->Vals ((l.map fun p=>iR Hn p.1).map V.str) (l.map (·.2))
 | [],_ =>.nil
 | p::l,h =>.cons (h p Jq) (pS fun q hq=>h q (Jn _ hq))
def Ct (X:Cx)(H:Hp)(s0:Shared)(D:Addr)(ts:List Str)(P:Shared->Prop):Prop:=
 ∀(us:List Str) (out:Array Value) (Hn:Hp) (sn:Shared) (e:Nat),Run X H s0 Hn sn->aj H Hn->Hn D=none->sn.heap.get? D=some (seqObj "list" out e)->Vals (us.map V.str) out.toList->us.Perm ts->us.Pairwise (fun a b =>¬fO b a)->P sn
theorem lu {A:Around}{E:Value->Shared->Prop}{e1:Nat}{Hn:Hp}{ks:List Value}{sn:Shared}{P:PySem.Fin->Shared->Prop}{st:SortSt}(k:Kj X H s0 D kS e1 ts Hn ks sn)(rv:Vals (ts.map V.str) vs)(hz:ts.length<=sizeLine)
  (hp:(arrOf st).Perm (ks.toArray.zip vs.toArray)) (hf:failedOf st=none) (hs:Sg (zP Hn ts) (arrOf st) 0 (arrOf st).size) (h:Ct X H s0 D ts fun sn=>P (.done (.ret .none)) sn) :
  wpAny (model X.prog X.w) A (ksk_tail D false e1 (.ref kS) st) P E sn:=by
 obtain⟨e,hk⟩:=k.kat
 have lk:ks.length=ts.length:=k.keys.length.symm
 have oY:(arrOf st).toList.Perm (ks.zip vs):=by
  have:=Wa.mp hp
  rw[ksk_zip] at this;exact this
 obtain⟨z1,z2⟩:=lB k.keys rv
 have z3:∀p∈(arrOf st).toList,∃t,t∈ts/\eR Hn t p.1/\RelV (.str t) p.2:=fun p h=>z2 p (oY.subset h)
 have up:((arrOf st).toList.map fun p=>iR Hn p.1).Perm ts:=by rw[<-z1];exact oY.map _
 have ul:=up.length_eq
 rw[Ja,Jv] at ul
 have d1:(sn.heap.update kS (Obj.mapSeq fun _=>(#[]:Array Value))).get? D=some (seqObj "list" #[] e1):=by rw[Yv _ _ _ _ k.ne.symm];exact k.dat
 unfold ksk_tail
 try dsimp only
 refine wpAny_bind (listUpdate_at hk rfl ?_ (by rw[Jm];omega) (Um _))
 refine wpAny_bind (wpAny_letGo ?_)
 refine wpAny_bind (seqEpoch_at d1 rfl ?_)
 simp -iota only [J9,if_false]
 refine wpAny_bind (listUpdate_at d1 rfl ?_ (Um _) (by rw[Array.size_map];omega))
 rw[hf]
 simp -iota only [bne_self_eq_false,J9,if_false]
 obtain⟨e2,g2⟩:∃e2,((sn.heap.update kS (Obj.mapSeq fun _=>(#[]:Array Value))).update D (Obj.mapSeq fun _=>(arrOf st).map (·.2))).get? D=some (seqObj "list" ((arrOf st).map (·.2)) e2):=⟨_,get?_update_seq d1 fun _=>(arrOf st).map (·.2)⟩
 have r1:=k.run.alter (h':=sn.heap.update kS (Obj.mapSeq fun _=>(#[]:Array Value))) k.k0 k.kn fun c u hc q=>by rw[Yv _ _ _ _ hc];exact q
 have r2:=r1.alter (h':=(sn.heap.update kS (Obj.mapSeq fun _=>(#[]:Array Value))).update D (Obj.mapSeq fun _=>(arrOf st).map (·.2))) k.d0 k.dn fun c u hc q=>by rw[Yv _ _ _ _ hc];exact q
 refine wpAny_pure (h _ _ Hn _ e2 r2 k.same k.dn g2 ?_ up ?_)
 ·rw[Array.toList_map]
  exact pS fun p hp=>by
   refine ae.el (z3 p hp) _ ?_
   rintro t _ h2 h3
   rw[h2.txt];exact h3
 ·rw[Wg,Ya]
  intro i j hi hj fq
  rw[Jv] at hi hj
  have q:=hs i j (Um _) (Uy fq) hj
  have ki:∀{i:Nat} (hi:i<(arrOf st).size),ky (zP Hn ts) (arrOf st) i=rk ts (iR Hn ((arrOf st)[i]).1):=fun{i} hi=>by unfold ky;rw[J7 hi];rfl
  rw[ki hi,ki hj] at q
  rw[Array.getElem_toList,Array.getElem_toList]
  obtain⟨t,m1,k1,_⟩:=z3 (arrOf st)[i] (by rw[<-Array.getElem_toList];exact Jo _)
  obtain⟨u,m2,k2,_⟩:=z3 (arrOf st)[j] (by rw[<-Array.getElem_toList];exact Jo _)
  rw[k1.txt,k2.txt] at q ⊢
  intro z
  have:=(wY m2 m1).mp z
  omega
theorem AL {P:Program}{w:World}{Hn:Hp}{h:Heap}(ok:fK P w Hn h):∀{ts:List Str} {ks:List Value},Paired (eR Hn) ts ks->∃fs,KatTups h ks fs/\fs.length=ks.length/\∀v∈fs,∃z t,v=Value.int z t:=by
 intro ts ks k
 induction k with
 | nil=>exact⟨[],.nil,rfl,fun v hv=>by cases hv⟩
 | @cons t _ _ _ r _ ih=>
  refine ae.el ih _ ?_
  rintro fs a l q
  refine ae.el (r.obj ok) _ ?_
  rintro x o n t1 t2 rfl e1 e2 e3
  refine⟨.int t.length t1::fs,.cons e1 e2 e3 rfl a,by rw[J0,J0,l],fun v hv =>?_⟩
  rcases Uh.mp hv with rfl|hv
  ·exact⟨_,_,rfl⟩
  ·exact q v hv
theorem uN {A:Around}{E:Value->Shared->Prop}{e1:Nat}{Hn:Hp}{ks:List Value}{sn:Shared}{P:PySem.Fin->Shared->Prop}(k:Kj X H s0 D kS e1 ts Hn ks sn)(rv:Vals (ts.map V.str) vs)(hz:ts.length<=sizeLine)
  (h:Ct X H s0 D ts fun sn=>P (.done (.ret .none)) sn):wpAny (model X.prog X.w) A (ksk_end D false vs.toArray e1 (.ref kS) ks.toArray) P E sn:=by
 have lk:ks.length=ts.length:=k.keys.length.symm
 have lv:vs.length=ts.length:=by have:=rv.length;rw[Ja] at this;exact this.symm
 obtain⟨z1,z2⟩:=lB k.keys rv
 unfold ksk_end
 try dsimp only
 simp -iota only [J9,if_false]
 by_cases h2:vs.toArray.size<2
 ·rw[if_pos h2,if_pos h2]
  refine wpAny_bind (wpAny_pure ?_)
  rw[StateT.run_pure]
  refine wpAny_bind (wpAny_pure ?_)
  refine lu k rv hz (Array.Perm.refl _) rfl (fun i j _ fq hj =>?_) h
  have:(arrOf (SortSt.mk' general' (ks.toArray.zip vs.toArray) #[] 7 none)).size<2:=by
   show(ks.toArray.zip vs.toArray).size<2
   rw[Array.size_zip,Jm,Jm]
   rw[Jm] at h2
   omega
  have IV:j<1:=Jt hj (Wh this)
  rw[show i=j by omega]
  exact Yk _
 ·rw[if_neg h2,if_neg h2]
  rw[Jm] at h2
  refine ae.el (AL k.run.bb k.keys) _ ?_
  rintro fs kt lf hf
  refine wpAny_bind (wpAny_mono (kat_kind (Q:=fun κ s' => κ=mV/\s'=sn) kt (by omega) (fun v hv =>?_) (by decide) ⟨rfl,rfl⟩) (fun κ s' hk =>?_) (fun _ _ z=>z))
  ·refine ae.el (hf v hv) _ ?_
   rintro z t rfl
   exact Looks.of_pure rfl
  obtain⟨rfl,rfl⟩:=hk
  have hL:iz X.prog X.w A E s' (ks.toArray.zip vs.toArray) (zP Hn ts) mV:=Cf k.run.bb fun x hx=>by
   rw[ksk_zip] at hx
   refine ae.el (z2 x hx) _ ?_
   rintro t h1 h2 _
   exact⟨t,h1,h2⟩
  refine wpAny_bind (wpAny_mono (AH (a₀:=ks.toArray.zip vs.toArray) (key:=zP Hn ts) (kd:=mV) (st:=SortSt.mk' mV (ks.toArray.zip vs.toArray) #[] 7 none) (Q:=fun _ st=>Tb (ks.toArray.zip vs.toArray) mV st/\Sg (zP Hn ts) (arrOf st) 0 (ks.toArray.zip vs.toArray).size) hL ⟨Array.Perm.refl _,rfl,rfl⟩ rfl fun _ t g=>⟨t,g⟩) ?_ fun _ _ z=>z)
  rintro⟨⟨⟩,st⟩ s2 ⟨rfl,t,g⟩
  exact lu k rv hz t.perm t.failed (by rw[t.perm.size_eq];exact g) h
theorem kC {E:Value->Shared->Prop}{f:Value}{r:V->Hp->VK->Prop}{n:Nat}{s:Shared}{P:PySem.Fin->Shared->Prop}(I:Inv X pins σ H s0)(F:wK X f r)(hr:∀t∈ts,∀Hj,aj H Hj->r (.str t) Hj fun v H'=>∃q,v = .ref q/\dX Hj q (.tup [.int t.length,.str t]) H')
  (r0:Run X H s0 H s) (d0:s0.heap.get? D=none) (hd:s.heap.get? D=some (seqObj "list" vs.toArray n)) (dn:H D=none) (rv:Vals (ts.map V.str) vs) (hz:ts.length<=sizeLine) (HJ:∀b o,s0.heap.get? b=some o->b<s.heap.objs.size)
  (h:Ct X H s0 D ts fun sn=>P (.done (.ret .none)) sn):wpAny (model X.prog X.w) X.A.in1.in1 (ksk_tree D f false) P E s:=by
 have lv:vs.length=ts.length:=by have:=rv.length;rw[Ja] at this;exact this.symm
 obtain⟨e1,g1⟩:∃e1,(s.heap.update D (Obj.mapSeq fun _=>(#[]:Array Value))).get? D=some (seqObj "list" #[] e1):=⟨_,get?_update_seq hd fun _ =>#[]⟩
 have k1:((s.heap.update D (Obj.mapSeq fun _=>(#[]:Array Value))).push (seqObj "tuple" vs.toArray 0)).objs.size=s.heap.objs.size+1:=by rw[size_push',Heap.size_update]
 have lD:D<s.heap.objs.size:=Jj hd
 unfold ksk_tree
 refine wpAny_bind (listItems_at hd rfl ?_)
 refine wpAny_bind (listUpdate_at hd rfl ?_ (by rw[Jm];omega) (Um _))
 refine wpAny_bind (seqEpoch_at g1 rfl ?_)
 refine wpAny_bind (wpAny_newTuple ?_ (by show vs.length<=_;omega))
 refine wpAny_bind (wpAny_newList ?_ (Um _))
 refine wpAny_holding ?_
 show wpAny _ _ (ksk_rest D f false vs.toArray e1 (.ref ((s.heap.update D (Obj.mapSeq fun _=>(#[]:Array Value))).push (seqObj "tuple" vs.toArray 0)).objs.size)) P E { s with heap:=((s.heap.update D (Obj.mapSeq fun _=>(#[]:Array Value))).push (seqObj "tuple" vs.toArray 0)).push (seqObj "list" #[] 0) }
 rw[k1]
 have g3:(((s.heap.update D (Obj.mapSeq fun _=>(#[]:Array Value))).push (seqObj "tuple" vs.toArray 0)).push (seqObj "list" #[] 0)).get? (s.heap.objs.size+1)=some (seqObj "list" #[] 0):=by rw[<-k1];exact Js _ rfl
 have ra:=r0.alter (h':=s.heap.update D (Obj.mapSeq fun _=>(#[]:Array Value))) d0 dn fun c u hc q=>by rw[Yv _ _ _ _ hc];exact q
 have rb:=ra.kept (h':=((s.heap.update D (Obj.mapSeq fun _=>(#[]:Array Value))).push (seqObj "tuple" vs.toArray 0)).push (seqObj "list" #[] 0)) fun b u q=>Jc _ (Jc _ q)
 have kk:Kj X H s0 D (s.heap.objs.size+1) e1 (ts.take 0) H ([]:List Value) { s with heap:=((s.heap.update D (Obj.mapSeq fun _=>(#[]:Array Value))).push (seqObj "tuple" vs.toArray 0)).push (seqObj "list" #[] 0) }:=
  ⟨rb,fun _ _ z=>z,dn,r0.bb.fresh (Yw _),d0,by
   cases q:s0.heap.get? (s.heap.objs.size+1) with
   | none=>rfl
   | some o=>exact absurd (HJ _ _ q) (by show ¬s.heap.objs.size+1<s.heap.objs.size;omega),Ym (Wf lD),Jc _ (Jc _ g1),⟨0,g3⟩,.nil⟩
 unfold ksk_rest
 refine wpAny_bind (wpAny_rule ?_)
 first
  | rw[List.forIn_toArray]
  | (rw[<-Array.forIn_toList];simp -iota only [List.toList_toArray])
  | rw[<-Array.forIn_toList]
 refine wpAny_bind (ksk_fold (I:=fun j s'=>∃Hj ks,Kj X H s0 D (s.heap.objs.size+1) e1 (ts.take j) Hj ks s') vs 0 _ ⟨_,_,kk⟩ (fun j x s' hx hI =>?_) fun s' hI =>?_)
 ·refine ae.el (hI) _ ?_
  rintro Hj ks k
  rw[Nat.zero_add] at k ⊢
  have hj:j<ts.length:=by have:=(Jx.mp hx).1;omega
  obtain⟨u,hu,ru⟩:=rv.get (i:=j) (x := .str ts[j]) (by rw[Jk,Jd hj];rfl)
  rw[hx] at hu;cases hu
  have lk:ks.length=j:=by have:=k.keys.length;rw[J1] at this;omega
  refine wpAny_bind (wpAny_attempt (wpAny_mono (F s' σ Hj _ _ _ (k.run.inv I) ru (hr ts[j] (Jo hj) Hj k.same)) (fun v s2 c =>?_) fun _ _ z=>z.elim))
  refine ae.el (k.more I (by omega) c) _ ?_
  rintro e nk Hi k'
  try dsimp only
  refine wpAny_bind (listUpdate_at nk rfl ?_ (by rw[Jm];omega) (Jr (Yu (Wc ..)) (by rw[Jm];omega)))
  refine wpAny_pure ⟨rfl,Hi,ks++[v],?_⟩
  rw[List.take_succ_eq_append_getElem hj]
  exact k'
 ·refine ae.el (hI) _ ?_
  rintro Hj ks k
  rw[Nat.zero_add,lv,J3] at k
  obtain⟨e,hk⟩:=k.kat
  try dsimp only
  refine wpAny_bind (listItems_at hk rfl ?_)
  exact uN k rv hz h
end
def nu (X:Cx)(id:String)(ks:List Str)(r:List V->List V->Hp->VK->Prop):Prop:=
 ∀ ⦃pins:List (Addr×Obj)⦄ (s:Shared) (σ:St) (H:Hp) (xs:List V) (us:List Value) (zs:List V) (ws:List Value) (Q:VK),Inv X pins σ H s->Vals xs us->Vals zs ws->r xs zs H Q ->
  wpAny (model X.prog X.w) X.A (call (.builtin id) us (ks.zip ws)) (EP X pins σ Q) X.xe s
section
variable {X:Cx}{x:Str}{p pos:Pos}{e:Expr}{es:List Expr}{wF:List Keyword}{t tk:TA}{id:String}{ks:List Str}{r:List V->List V->Hp->VK->Prop}
def MZ (r:List V->List V->Hp->VK->Prop)(t tk:TA):TE:=fun σ H Q=>t σ H fun vs H1=>tk σ H1 fun zs H2=>r vs zs H2 Q
theorem ju (hc:nu X id ks r)(hg:Gl X x)(hm:X.mg x=none)(hv:bootBuiltins x=some (.builtin id))(ha:PA X (e::es) t)(QH:PK X wF tk)(hn:x ≠ "__name__":=by decide)(A7:(x==("__debug__" : Str))=false:=by decide)
  (he:backTo pos (starEach (e::es) X.env)=(false,eval e X.env)::backTo pos (starEach es X.env):=by rfl) (oY:(backTo pos (starEach (e::es) X.env)).any (·.1)=false:=by rfl)
  (gQ:(backToKw pos (keywordEach wF X.env)).all (·.1.isSome)=true:=by rfl) (zz:(backToKw pos (keywordEach wF X.env)).any (·.1.isNone)=false:=by rfl) (DW:(backToKw pos (keywordEach wF X.env)).filterMap (·.1)=ks:=by rfl) :
  PE X (.Call (.Name x p) (e::es) wF pos) (MZ r t tk):=by
 intro pins s σ H Q I h
 refine wpAny_Call_Name_kw (gr I hg hm hv ?_ hn A7)
 refine callWith_kw (aZ (ha s σ H _ I h) fun us s1 hz_=>ae.el hz_ _ fun vs H1 I1 r1 q1 =>?_) he oY gQ zz
 refine aZ (QH s1 σ H1 _ I1 q1) fun ws s2 hz_ =>?_
 refine ae.el hz_ _ ?_
 clear hz_
 rintro zs H2 I2 r2 q2
 rw[DW]
 exact hc s2 σ H2 vs us zs ws Q I2 r1 r2 q2
end
section
variable {X:Cx}(K:Jb)
theorem xc {f:Addr}{r:V->Hp->VK->Prop}(F:wK X (.ref f) r)(hK:X.K=K:=by rfl):nu X "sorted" [Str.ofString "key"] (fun xs zs H Q=>cq fun(p:Addr) (ts:List Str)=>xs=[.ref p]/\zs=[.ref f]/\aK K H p (ts.map V.str) /\
  (∀t∈ts,∀Hj,r (.str t) Hj fun v H'=>∃q,v = .ref q/\dX Hj q (.tup [.int t.length,.str t]) H') /\
  ∀(us:List Str) (q:Addr) (H':Hp),us.Perm ts->us.Pairwise (fun a b =>¬fO b a)->aj H H'->H q=none->H' q=some (.lst (us.map V.str))->Q (.ref q) H'):=by
 subst hK
 intro pins s σ H xs us zs ws Q I r1 r2 h
 refine ae.el (h) _ ?_
 rintro p ts rfl rfl hq hr q
 refine ae.el (vals1 r1) _ ?_
 rintro u rfl ru
 refine ae.el (vals1 r2) _ ?_
 rintro z rfl rz
 cases ru;cases rz
 refine ae.el (I.list hq) _ ?_
 rintro ay rv pl hz
 have ht:ts.length<=sizeLine:=by rw[Ja] at hz;exact hz
 have hi:ay.length<=sizeLine:=by rw[<-rv.length];exact hz
 have k1:((s.heap.push (seqObj "list" #[] 0)).update s.heap.objs.size (Obj.mapSeq (· ++ ay.toArray))).objs.size=s.heap.objs.size+1:=(Heap.size_update ..).trans (size_push' _ _)
 have k2:(((s.heap.push (seqObj "list" #[] 0)).update s.heap.objs.size (Obj.mapSeq (· ++ ay.toArray))).push (seqObj "list" ay.toArray 0)).get? _=some (seqObj "list" ay.toArray 0):=Js _ rfl
 have keep:∀b o,s.heap.get? b=some o->(((s.heap.push (seqObj "list" #[] 0)).update s.heap.objs.size (Obj.mapSeq (· ++ ay.toArray))).push (seqObj "list" ay.toArray 0)).get? b=some o:=fun b o e=>
  Jc _ (by rw[Yv _ _ _ _ (Jw (Jj e))];exact Jc _ e)
 show wpAny _ _ (call (.builtin "sorted") [.ref p] [(Str.ofString "key",.ref f)]) _ _ _
 refine call_function_entry_kw kind_sorted plain_sorted entry_sorted (ksk_s1 _ _) ?_
 unfold Builtin.«sorted»
 refine wpAny_bind (m:=checkCount "sorted" 1 1 _) (wpAny_pure (wpAny_bind (collect_list pl.isList (wpAny_bind (wpAny_newList ?_ hi)) hi)))
 rw[k1] at k2
 show wpAny _ _ _ _ _ { s with heap:=Heap.push _ (seqObj "list" ay.toArray 0) }
 rw[k1]
 refine wpAny_bind (wpAny_holding (wpAny_call_entry_kw slot_list_sort ⟨_,k2,rfl⟩ entry_list_sort ?_ (ksk_l1 _ _)))
 rw[ksk_t1]
 have d0:s.heap.get? (s.heap.objs.size+1)=none:=Heap.get?_none_of_le (Yw _)
 refine kC (ts:=ts) I F (fun t ht Hj _=>hr t ht Hj) ((Run.start I).kept keep) d0 k2 (I.bb.fresh (Yw _)) rv ht (fun b o e=>Jj (keep b o e)) ?_
 intro vs out Hn sn e run same dn hD rv' up pw
 have lo:vs.length<=sizeLine:=by rw[up.length_eq];exact ht
 have new:=run.told (o := .lst (vs.map V.str)) d0 dn ⟨by rw[Ja];exact lo,out.toList,e,rv',by simpa [seqObj] using hD⟩
 refine⟨_,rfl,wpAny_pure ⟨_,rfl,.ref (s.heap.objs.size+1),_,new.inv I,rfl,q vs _ _ up pw (fun a o z =>?_) (I.bb.fresh (Yw _)) ax⟩⟩
 rw[ak (fun h=>by rw[h,I.bb.fresh (Yw _)] at z;cases z)]
 exact same a o z
end
theorem uG (a v:Value):argsOk "max" ⟨[a],[(Str.ofString "default",v)]⟩:=by unfold argsOk;kernel_rfl
def Md (bt:Nat->Nat->Bool)(P:Nat->Value->Prop)(j:Nat)(xs:Array Value):Prop:=(j=0/\xs = #[])∨∃k v,j=k+1/\P (argBest bt k) v/\xs = #[v,v]
section
variable {prog:Program}{w:World}{A:Around}{R:Result->Shared->Prop}{I S:Addr}{fp wr:List Addr}{n:Nat}{P:Nat->Value->Prop}{St:Nat->Heap->Prop}{bt:Nat->Nat->Bool}{dv:Value}
theorem uB (W:Walks prog w A.in1 I fp wr n P St)(KW:CmpOf prog w A.in1 .Gt P bt)(out:S∉fp)(m:Nat):
  ∀(j:Nat) (s:Shared) (xs:Array Value) (c:Nat),m=n-j->j<=n->St j s.heap->Md bt P j xs->s.heap.get? S=some { cls := .type "list",dict:=none,data := .seq xs c,slots := #[] } ->
   (∀v h' tk,(n=0/\v=dv)∨(0<n/\P (argBest bt (n-1)) v)->(∀b o,b∉wr->b≠S->s.heap.get? b=some o->h'.get? b=some o)->R (.ok (.ret v)) { s with heap:=h',toks:=tk }) ->
   codeAny (model prog w) A (.builtin "max.loop" ⟨[.ref I,.none,.ref S],[(Str.ofString "default",dv)]⟩) R s:=by
 have ow:S∉wr:=fun z=>out (W.sub _ z)
 have nm:(toString "max" ++ toString ".loop" : String) = "max.loop":=by decide
 have apart:∀{b:Addr},b∈fp->S≠b:=fun hb z=>out (by rw[z];exact hb)
 induction m with
 | zero=>
  intro j s xs c hm hj st hb hS hR
  obtain rfl:j=n:=by omega
  refine codeAny_builtin F.entry_max_loop ?_
  rw[Around.under_plainId F.plain_max_loop _]
  refine wpAny_bind (wpAny_seqItems hS rfl (wpAny_bind (wpAny_tryCatch (W.done s _ _ st fun h' tk hk =>?_))))
  rcases hb with ⟨e0,rfl⟩|⟨k,v,rfl,hv,rfl⟩
  ·exact wpAny_bind (wpAny_rule (wpAny_pure (hR dv h' tk (.inl ⟨e0,rfl⟩) fun b o h1 _ e=>hk b o h1 e)))
  ·exact wpAny_bind (wpAny_updateSeq (hk S _ ow hS) rfl (wpAny_bind (wpAny_letGo (wpAny_pure (hR v _ tk (.inr ⟨Nat.succ_pos _,hv⟩) fun b o h1 h2 e=>(Uk _ _ (Ne.symm h2)).trans (hk b o h1 e))))))
 | succ m ih=>
  intro j s xs c hm hj st hb hS hR
  have cF:j<n:=by omega
  refine codeAny_builtin F.entry_max_loop ?_
  rw[Around.under_plainId F.plain_max_loop _]
  refine wpAny_bind (wpAny_seqItems hS rfl (wpAny_bind (wpAny_tryCatch (W.item j s _ _ cF st fun u h' tk hu aE hk =>?_))))
  have Io:=hk S _ ow hS
  have next:∀{y:Value},P (argBest bt j) y->codeAny (model prog w) A (.builtin "max.loop" ⟨[.ref I,.none,.ref S],[(Str.ofString "default",dv)]⟩) R { s with heap:=h'.update S (Obj.mapSeq fun _ =>#[y,y]),toks:=tk }:=fun{y} hy=>
   ih (j+1) _ #[y,y] _ (by omega) cF (W.frame _ _ _ aE fun b hb o e=>(Uk _ _ (apart hb)).trans e) (.inr ⟨j,y,rfl,hy,rfl⟩) (Ux _ Io rfl) fun v h'' tk'' hv hk''=>hR v h'' tk'' hv fun b o h1 h2 e=>hk'' b o h1 h2 ((Uk _ _ (Ne.symm h2)).trans (hk b o h1 e))
  rcases hb with ⟨rfl,rfl⟩|⟨k,v,rfl,hv,rfl⟩
  ·change wpAny _ A.in1 (updateSeq S (fun _ =>#[u,u]) >>= _) _ _ _
   refine wpAny_bind (wpAny_updateSeq Io rfl ?_)
   rw[nm]
   exact wpAny_pure ⟨plainId_quiet F.plain_max_loop _,next hu⟩
  ·change wpAny _ A.in1 (tryCatch (holding [u,u] (richCompare .Gt u v >>= _)) _ >>= _) _ _ _
   refine wpAny_bind (wpAny_tryCatch (wpAny_holding (wpAny_bind (KW (k+1) (argBest bt k) u v _ _ _ hu hv (wpAny_bind (wpAny_holding (wpAny_truthy_bool (wpAny_bind (wpAny_letGo (wpAny_pure ?_))))))))))
   cases hc:bt (k+1) (argBest bt k) with
   | true=>
    refine wpAny_bind (wpAny_updateSeq Io rfl (wpAny_bind (wpAny_letGo ?_)))
    rw[nm]
    exact wpAny_pure ⟨plainId_quiet F.plain_max_loop _,next (by unfold argBest;rw[if_pos hc];exact hu)⟩
   | false=>
    refine wpAny_bind (wpAny_letGo ?_)
    rw[nm]
    exact wpAny_pure ⟨plainId_quiet F.plain_max_loop _,ih (k+1+1) _ #[v,v] c (by omega) cF aE (.inr ⟨k+1,v,rfl,by unfold argBest;rw[if_neg (by rw[hc];decide)];exact hv,rfl⟩) Io fun y h'' tk'' hy hk''=>hR y h'' tk'' hy fun b o h1 h2 e=>hk'' b o h1 h2 (hk b o h1 e)⟩
end
variable {X:Cx}
theorem maxD (K:Jb)(hc:X.calm=true)(hK:X.K=K:=by rfl):nu X "max" [Str.ofString "default"] (fun xs zs H Q=>gO fun(p:Addr) (ns:List Int) (d:Int)=>xs=[.ref p]/\zs=[.int d]/\aK K H p (ns.map V.int)/\∀M,(ns=[]/\M=d)∨(M∈ns/\∀a∈ns,a<=M)->Q (.int M) H):=by
 subst hK
 intro pins s σ H xs us zs ws Q I r1 r2 h
 refine ae.el (h) _ ?_
 rintro p ns d rfl rfl hq q
 refine ae.el (vals1 r1) _ ?_
 rintro u rfl ru
 refine ae.el (vals1 r2) _ ?_
 rintro z rfl rz
 cases ru
 have He:(toString "max" ++ toString ".loop" : String) = "max.loop":=by decide
 show wpAny _ _ (call (.builtin "max") [.ref p] [(Str.ofString "default",z)]) _ _ _
 refine kmk_tree PySem.F.kind_max PySem.F.plain_max PySem.F.entry_max (uG _ _) ?_
 change wpAny _ X.A.in1 (Bind.bind (Builtin.Builtins.bindParams "max" ["key", "default"] 0 ⟨[],[(Str.ofString "default",z)]⟩) _) _ _ s
 refine wpAny_bind (wpAny_of_eq (show Builtin.Builtins.bindParams "max" ["key", "default"] 0 ⟨[],[(Str.ofString "default",z)]⟩=pure [none,some z] from rfl) (wpAny_bind (wpAny_pure ?_)))
 refine wpAny_bind (mj (A:=X.A.in1) (I.ok.hd hc) I hq fun ay it s2 rv hz W st cF hI =>?_)
 have hl:ay.toArray.size=ns.length:=by have:=rv.length;simp at this ⊢;omega
 refine wpAny_bind (wpAny_newObj_type ?_)
 have OE:s2.heap.objs.size∉[it,p]:=fun hm=>U7 _ (cF _ hm)
 rw[He]
 refine wpAny_pure ⟨plainId_quiet PySem.F.plain_max_loop _,uB (bt:=fun i j=>decide (ns.getD i 0>ns.getD j 0)) W ?_ OE _ 0 _ _ _ rfl (Um _) (W.frame _ _ _ st fun b _ o e=>Jc _ e) (.inl ⟨rfl,rfl⟩) (Js _ rfl) fun v h' tk hP hk =>?_⟩
 ·refine CmpOf.ints_gt (fun i=>ns.getD i 0) fun{i v} e =>?_
  obtain⟨n,t,h1,rfl⟩:=int_at rv e
  exact⟨t,by simp[List.getD,h1]⟩
 ·have I2:=hI h' tk fun b o hbw e=>hk b o hbw (Jw (Jj e)) (Jc _ e)
  rcases hP with ⟨h0,rfl⟩|⟨h0,e⟩
  ·exact⟨.int d,H,I2,rz,q d (.inl ⟨J5 (by omega),rfl⟩)⟩
  ·obtain⟨n,t,h1,rfl⟩:=int_at rv e
   obtain⟨b1,b2⟩:=argBest_gt (fun i=>ns.getD i 0) (ay.toArray.size-1)
   refine⟨.int n,H,I2,⟨_,rfl⟩,q n (.inr ⟨Wd h1,fun a ha =>?_⟩)⟩
   obtain⟨j,hj⟩:=List.getElem?_of_mem ha
   have Om:j<ns.length:=(Jx.mp hj).1
   have z:=b2 j (by omega)
   have e1:ns.getD j 0=a:=by simp[List.getD,hj]
   have e2:ns.getD (argBest (fun i j=>decide (ns.getD i 0>ns.getD j 0)) (ay.toArray.size-1)) 0=n:=by rw[Yt,h1];rfl
   rw[<-e1,<-e2]
   exact z
section
variable {X:Cx}
theorem lz:∀{xs:List V} {us:List Value} (j:Nat),Vals xs us->Vals (xs.eraseIdx j) (us.eraseIdx j)
 | _,_,_,.nil=>by simp;exact .nil
 | _,_,0,.cons _ t=>by simpa using t
 | _,_,j+1,.cons h t=>by simpa using .cons h (lz j t)
end
theorem PE.weak {X:Cx}{e:Expr}{t t':TE}(h:PE X e t)(w:∀ σ H Q,t' σ H Q->t σ H Q):PE X e t':=fun _ s σ H Q I q=>h s σ H Q I (w σ H Q q)
theorem PA.weak {X:Cx}{es:List Expr}{t t':TA}(h:PA X es t)(w:∀ σ H Q,t' σ H Q->t σ H Q):PA X es t':=fun _ _ s σ H Q I q=>h s σ H Q I (w σ H Q q)
noncomputable def newOf (H H':Hp):Hp:=fun a=>match H a with
 | none=>H' a
 | some _=>none
theorem eI {H H':Hp}{a:Addr}(h:H a=none):newOf H H' a=H' a:=by unfold newOf;rw[h]
theorem eF {H H':Hp}{a:Addr}{o:HO}(h:newOf H H' a=some o):H a=none/\H' a=some o:=by
 unfold newOf at h
 cases e:H a with
 | none=>rw[e] at h;exact⟨rfl,h⟩
 | some u=>rw[e] at h;cases h
theorem fE {H H1 H2:Hp}(s:aj H1 H2):aj (newOf H H1) (newOf H H2):=fun a o h=>by
 rw[eI (eF h).1];exact s a o (eF h).2
theorem qP {H H1 H2:Hp}(s:aj H H1):aj (newOf H1 H2) (newOf H H2):=fun a o h=>by
 rw[eI (s.free (eF h).1)];exact(eF h).2
def qz (K:Jb)(d:PyData):TE:=fun _ H Q=>∀v H',aj H H'->Den K (newOf H H') d v->Q v H'
noncomputable def ma (K:Jb)(ds:List PyData):TA:=fun _ H Q=>∀vs H',aj H H'->aB K (newOf H H') ds vs->Q vs H'
section
variable {X:Cx}{K:Jb}
theorem lit_int {i:Int}{j pos}:PE X (.Constant (.int i) j pos) (qz K (.int i)):=ao.weak fun σ H Q h=>h _ H (aj.refl _) (by unfold Den;rfl)
theorem lit_str {x:Str}{j pos}:PE X (.Constant (.str x) j pos) (qz K (.str x)):=bu.weak fun σ H Q h=>h _ H (aj.refl _) (by unfold Den;rfl)
theorem Cb {b:Bool}{j pos}:PE X (.Constant (.bool b) j pos) (qz K (.bool b)):=dk.weak fun σ H Q h=>h _ H (aj.refl _) (by unfold Den;rfl)
theorem uh {j pos}:PE X (.Constant .none j pos) (qz K .none):=e7.weak fun σ H Q h=>h _ H (aj.refl _) (by unfold Den;rfl)
theorem lit_neg {i:Int}{j pos pos'}:PE X (.UnaryOp .USub (.Constant (.int i) j pos) pos') (qz K (.int (-i))):=(BN yB ao).weak fun σ H Q h=>⟨i,rfl,h _ H (aj.refl _) (by unfold Den;rfl)⟩
theorem bf:PA X [] (ma K []):=ag.weak fun σ H Q h=>h [] H (aj.refl _) (by unfold aB;rfl)
theorem ar {e:Expr}{es:List Expr}{d:PyData}{ds:List PyData}(h:PE X e (qz K d))(hs:PA X es (ma K ds))(iy:starEach (e::es) X.env=(false,eval e X.env)::starEach es X.env:=by rfl):PA X (e::es) (ma K (d::ds)):=
 (aa h hs iy).weak fun σ H Q q v H1 s1 d1 vs H2 s2 d2=>q (v::vs) H2 (s1.trans s2) (by
  unfold aB
  exact⟨v,vs,rfl,d1.same (fE s2),d2.same (qP s1)⟩)
theorem jJ {K:Jb}{H:Hp}:∀{ds:List PyData} {vs:List V},aB K H ds vs->vs.length=ds.length
 | [],_,h=>by unfold aB at h;subst h;rfl
 | d::ds,vs,h=>by
  unfold aB at h
  obtain⟨v,r,rfl,h1,h2⟩:=h
  rw[J0,J0,jJ h2]
theorem nJ {es:List Expr}{ds:List PyData}{pos:Pos}(h:PA X es (ma K ds))(hl:ds.length<=1000:=by decide):PE X (.List es pos) (qz K (.list ds)):=
 (eP h).weak fun σ H Q q vs H1 s1 d1=>⟨Jr (by rw[jJ d1];exact hl) (show 1000<=sizeLine by decide),fun p H' n=>q _ _ (s1.trans n.same) (by
  unfold Den
  exact⟨p,vs,rfl,aK.of (by rw[eI (s1.free n.nn)];exact n.at),d1.same (fE n.same)⟩)⟩
theorem cA {es:List Expr}{ds:List PyData}{x1}{pos:Pos}(h:PA X es (ma K ds))(hl:ds.length<=1000:=by decide):PE X (.Tuple es x1 pos) (qz K (.tuple ds)):=
 (fT h).weak fun σ H Q q vs H1 s1 d1=>⟨Jr (by rw[jJ d1];exact hl) (show 1000<=sizeLine by decide),fun p H' n=>q _ _ (s1.trans n.same) (by
  unfold Den
  exact⟨p,vs,rfl,fP.of (by rw[eI (s1.free n.nn)];exact n.at),d1.same (fE n.same)⟩)⟩
end
def GZ (K:Jb)(ds:List PyData):TE:=fun _ H Q=>∀p vs H',aj H H'->newOf H H' p=some (.lst vs)->aB K (newOf H H') ds vs->Q (.ref p) H'
theorem kI {X:Cx}{K:Jb}{es:List Expr}{ds:List PyData}{pos:Pos}(h:PA X es (ma K ds))(hl:ds.length<=1000:=by decide):PE X (.List es pos) (GZ K ds):=
 (eP h).weak fun σ H Q q vs H1 s1 d1=>⟨Jr (by rw[jJ d1];exact hl) (show 1000<=sizeLine by decide),fun p H' n=>q p vs H' (s1.trans n.same) (by rw[eI (s1.free n.nn)];exact n.at) (d1.same (fE n.same))⟩
open PySem.Calls Builtin Builtin.ObjectAttr
section
variable {prog:Program}{w:World}{A:Around}{E:Value->Shared->Prop}{h0:Heap}{g0:Array GenState}{d0:Drawn}{t0:Nat}{Rk:OsState}{nm qn:Str}{C N fi:Addr}{bs up tail:List Value}{QS:Bool}{sn:List Str}{sub:List Value}{ab:Bool}
 {col:Option Bool} {dd:Option Addr} {k0 k1 k2 k3 k5:Option Value} {B newId IE:String}
end
section
variable {X:Cx}{pins:List (Addr×Obj)}{σ:St}{H:Hp}{s:Shared}{a:Addr}{u v:HO}
theorem Inv.BR (I:Inv X pins σ H s)(hu:H a=some u)(nt:∀xs,u ≠ .tup xs)(nf:∀o w,X.H₀ a≠some (.frz o w))(nb:∀ps,u ≠ .tbl ps)(no:∀y,u ≠ .own y)(hv:∀H',(∀b,H b=some (.own a)->H' b=some (.own a))->(∀b xs,H b=some (.tup xs)->H' b=some (.tup xs))->bF X.prog X.w H' s.heap a v):
  Inv X pins σ (upd H a v) s:=by
 have qO:∀{b:Addr},H b=none->b≠a:=fun e z=>by rw[z,hu] at e;cases e
 have own:∀b y,H b=some (.own y)->upd H a v b=some (.own y):=fun b y e=>by
  rw[ak (fun z=>by rw[z,hu] at e;exact no y (Option.some.inj e))];exact e
 have tup:∀b xs,H b=some (.tup xs)->upd H a v b=some (.tup xs):=fun b xs e=>by
  rw[ak (fun z=>by rw[z,hu] at e;exact nt xs (Option.some.inj e))];exact e
 refine⟨I.ok,I.os,I.bare,⟨I.base.keep,I.base.slot,fun b o q n hx =>?_,I.base.there,fun b xs q=>tup b xs (I.base.gb b xs q),fun b o w q =>?_,fun b ps q =>?_⟩,I.loc,I.cell,?_,fun x c e =>?_,fun p hp =>?_,fun b o e =>?_,I.len⟩
 ·have:=I.base.free b o q n hx
  rw[ak (qO this)];exact this
 ·have:=I.base.fj b o w q
  rw[ak (fun z=>by rw[z] at q;exact nf _ _ q)];exact this
 ·obtain⟨more,e⟩:=I.base.fR b ps q
  exact⟨more,by rw[ak (fun z=>by rw[z,hu] at e;exact nb _ (Option.some.inj e))];exact e⟩
 ·rw[ak (qO I.free)];exact I.free
 ·rw[ak (qO (I.freeC x c e))];exact I.freeC x c e
 ·obtain⟨p1,p2,p3⟩:=I.pin p hp
  exact⟨p1,by rw[ak (qO p2)];exact p2,p3⟩
 ·by_cases z:b=a
  ·subst z
   rw[ax] at e
   cases e
   exact hv _ (fun b e=>own b _ e) tup
  ·rw[ak z] at e
   exact(I.bb b o e).lW (fun _ _ _ q=>q) (fun b e=>own b _ e) tup
theorem Inv.freeze {kvs:List (Key×V)}(I:Inv X pins σ H s)(h:H a=some (.dK kvs)):∃ob ep vs,s.heap.get? a=some ob/\KV kvs vs/\(a==sysModules)=false/\(∀h':Heap,h'.get? a=some ob->h'.DictAt (aR X.prog X.w) a vs ep)/\Inv X pins σ (upd H a (.frz ob (.dK kvs))) s:=by
 obtain⟨z,ns,vs,kv,o,es,ep,e,r⟩:=I.bb a _ h
 refine⟨o,ep,vs,e,kv,ns,fun h' e'=>⟨o,es,e',r⟩,I.BR h (fun _ z=>nomatch z) (fun o w q =>?_) (fun _ z=>nomatch z) (fun _ z=>nomatch z) fun H' _ _=>⟨e,z,ns,vs,kv,o,es,ep,e,r⟩⟩
 have:=I.base.fj a o w q
 rw[h] at this;cases this
theorem Inv.Mo {ob:Obj}{kvs:List (Key×V)}(I:Inv X pins σ H s)(h:H a=some (.frz ob (.dK kvs)))(nf:∀o w,X.H₀ a≠some (.frz o w)):Inv X pins σ (upd H a (.dK kvs)) s:=by
 obtain⟨e,z,ns,vs,kv,o,es,ep,e',r⟩:=I.bb a _ h
 exact I.BR h (fun _ z=>nomatch z) nf (fun _ z=>nomatch z) (fun _ z=>nomatch z) fun H' _ _=>⟨z,ns,vs,kv,o,es,ep,e',r⟩
end
noncomputable def Oh (ob:Obj)(a:Addr)(kvs:List (Key×V)):It:=⟨fun i H=>H a=some (.frz ob (.dK kvs))/\i<kvs.length,fun i H x H'=>H'=H/\∃q,kvs[i]? = some q/\x=kV q.1,fun i H=>H a=some (.frz ob (.dK kvs))/\kvs.length<=i⟩
theorem Dz {kvs:List (Key×V)}{vs:List (Key×Value)}(h:KV kvs vs):∀{i:Nat} {q:Key×V},kvs[i]? = some q->∃z,vs[i]? = some (q.1,z):=by
 induction h with
 | nil=>intro i q e;exact nomatch(List.getElem?_nil.symm.trans e)
 | cons h t ih=>
  intro i q e
  cases i with
  | zero=>cases e;exact⟨_,by rw[h.1];rfl⟩
  | succ i=>exact ih (i:=i) e
theorem rF {P:Program}{w:World}{K:Jb}{tg:Expr}{a it:Addr}{ob:Obj}{ep:Nat}{kvs:List (Key×V)}{vs:List (Key×Value)}(kv:KV kvs vs)(D:∀h':Heap,h'.get? a=some ob->h'.DictAt (aR P w) a vs ep):
  Turn P w K tg (Oh ob a kvs) [it] it (fun i h=>h.IsKeyIter it a i vs.length ep) where
 mem:=by simp
 obj:=fun i h st b hb=>by
  have e:b=it:=by simpa using hb
  subst e
  obtain⟨o,e,c,d⟩:=st
  exact⟨o,e,fun v z=>by rw[d] at z;cases z⟩
 keep:=fun i h h' st k=>by
  obtain⟨o,e,c,d⟩:=st
  exact⟨o,k it (by simp) o e,c,d⟩
 item:=by
  intro X hP hw hK hc i pins s σ H E I hf st hg
  subst hP hw hK
  obtain⟨ha,hi⟩:=hg
  obtain⟨f0,f1,f2,f3,f4,f5⟩:=hf it (by simp)
  obtain⟨z,hz⟩:=Dz kv (Jd hi)
  refine wpAny_pyNext_dict_item (knd:=aR X.prog X.w) st (D _ (I.bb a _ ha).1) hz fun key h' hk aE sb =>?_
  have I1:Inv X pins σ H { s with heap:=h' }:=I.turned (t':=s.toks) (fun b o hb e=>(sb.2 b hb).trans e) f0 f1 f3 f4 f5
  obtain⟨o,e,c,d⟩:=id aE
  have rk:RelV (kV kvs[i].1) key:=by
   rcases bD hk with ⟨n,t,e1,e2⟩|⟨x,t,e1,e2⟩
   ·rw[e1,e2];exact⟨t,rfl⟩
   ·rw[e1,e2];exact⟨t,rfl⟩
  exact⟨_,rfl,tF (s:={ s with heap:=h' }) e c d (by decide) ⟨_,H,I1,rk,⟨rfl,_,Jd hi,rfl⟩,aE,fun b hb=>(hf b hb).1⟩⟩
 done:=by
  intro X hP hw hK hc i pins s σ H E I hf st hg
  subst hP hw hK
  obtain⟨ha,hi⟩:=hg
  obtain⟨f0,f1,f2,f3,f4,f5⟩:=hf it (by simp)
  exact wpAny_pyNext_dict_end (knd:=aR X.prog X.w) (I.ok.hd hc) st (D _ (I.bb a _ ha).1) (List.getElem?_eq_none (by rw[<-kv.length];exact hi)) fun h' eb=>⟨rfl,I.turned (t':=s.toks) (fun b o hb e=>eb b o hb e) f0 f1 f3 f4 f5⟩
 self:=fun A i s Q E st h=>wpAny_pyIter_keyiter st h
def DU (tl:TE):TI:=fun σ H R=>tl σ H fun x H1=>cq fun(a:Addr) (kvs:List (Key×V))=>x = .ref a/\H1 a=some (.dK kvs)/\∀ob,R (Oh ob a kvs) (upd H1 a (.frz ob (.dK kvs)))
theorem kM {X:Cx}{tg l:Expr}{tl:TE}(hl:PE X l tl):PI X tg l (DU tl):=by
 intro pins s σ H R I h
 refine aZ (hl s σ H _ I h) fun v s1 ⟨x,H1,I1,r1,a,kvs,e,ha,q⟩=>?_
 subst e
 cases r1
 refine ae.el (I1.freeze ha) _ ?_
 rintro ob ep vs eo kv ns D I2
 refine wpAny_pyIter_dict (knd:=aR X.prog X.w) ns (D _ eo) ?_
 have hk:∀b o,s1.heap.get? b=some o->(s1.heap.push { cls := .type "dict_keyiterator",data := .fields #[.ref a,.int 0 0,.int vs.length 0,.int ep 0] }).get? b=some o:=fun b o e=>Jc _ e
 have I3:=I2.kept (t':=s1.toks) hk
 refine⟨_,_,_,_,_,rfl,I3,rF kv D,⟨_,Js _ rfl,rfl,rfl⟩,fun c hc =>?_,q ob⟩
 have Fl:s1.heap.objs.size<=c:=by
  simp at hc
  rw[hc];exact Je _
 exact I2.jF Fl (I2.bb.fresh Fl)
def F0 (te:TE):TE:=fun σ H Q=>∃a,(∃kvs,H a=some (.dK kvs))/\te σ H fun v H'=>∃ob kvs,H' a=some (.frz ob (.dK kvs))/\Q v (upd H' a (.dK kvs))
theorem AR {X:Cx}{e:Expr}{te:TE}(h:PE X e te):PE X e (F0 te):=by
 intro pins s σ H Q I hq
 obtain⟨a,⟨kvs,ha⟩,q⟩:=hq
 have nf:∀o w,X.H₀ a≠some (.frz o w):=fun o w z=>by
  have:=I.base.fj a o w z
  rw[ha] at this;cases this
 refine aZ (h s σ H _ I q) fun u s1 ⟨v,H1,I1,r1,ob,kvs',h1,q1⟩=>⟨v,_,I1.Mo h1 nf,r1,q1⟩
theorem ph {prog:Program}{w:World}{kvs:List (Key×V)}{vs:List (Key×Value)}(h:KV kvs vs):∀{ay:List Value},ay.length=vs.length ->
  (∀(j:Nat) v,ay[j]? = some v->∃k x,vs[j]? = some (k,x)/\(aR prog w).is k v=true)->Vals (kvs.map fun q=>kV q.1) ay:=by
 unfold KV at h
 induction h with
 | nil=>
  intro ay hl _
  rw[J5 hl]
  exact .nil
 | @cons p q kvs vs h1 _ ih=>
  intro ay hl h
  cases ay with
  | nil=>cases hl
  | cons v ay=>
  refine .cons ?_ (ih (Nat.succ.inj hl) fun j u e=>h (j+1) u e)
  obtain⟨k,x,e1,e2⟩:=h 0 v rfl
  cases e1
  show RelV (kV p.1) v
  rw[show p.1=k from h1.1]
  rcases bD e2 with ⟨n,t,z1,z2⟩|⟨y,t,z1,z2⟩
  ·rw[z1,z2];exact⟨t,rfl⟩
  ·rw[z1,z2];exact⟨t,rfl⟩
section
variable {X:Cx}
theorem GQ (hc:X.calm=true):cj X (.type "list") (fun xs H Q=>cq fun(d:Addr) (kvs:List (Key×V))=>xs=[.ref d]/\H d=some (.dK kvs)/\∀p H',dX H p (.lst (kvs.map fun q=>kV q.1)) H'->Q (.ref p) H'):=by
 intro pins s σ H xs us Q I r h
 obtain⟨d,kvs,rfl,hd,q⟩:=h
 obtain⟨u,rfl,ru⟩:=vals1 r
 cases ru
 obtain⟨z,ns,vs,kv,o,es,ep,e,rr⟩:=I.bb d _ hd
 have kl:=kv.length
 refine kdl_call (kdl_dict (knd:=aR X.prog X.w) (kvs:=vs) (ep:=ep) ns) (I.ok.hd hc) ⟨o,es,e,rr⟩ (by omega) fun h' tk acc c k hS items =>?_
 refine⟨.ref s.heap.objs.size,_,I.laid (a:=s.heap.objs.size) (o := .lst (kvs.map fun q=>kV q.1)) (t':=tk) k (Je _) ⟨by rw[Ja];exact z,acc.toList,c,?_,by simpa using hS⟩,rfl,q _ _ ⟨I.bb.fresh (Je _),rfl⟩⟩
 exact ph kv (by rw[Jv];exact items.1) fun j v ej=>items.2 j v (by rw[<-Ua];exact ej)
end
section
variable {prog:Program}{w:World}{A:Around}{R:Result->Shared->Prop}{s:Shared}{kx vx t1 i1 t2 i2:Expr}{scope:Scope}{pos:Pos}{it:Value}{D:Addr}{env:Env}
theorem qC (I:Nat->Shared->Prop)
  (turn:∀n s,I n s->wpAny (model prog w) A (pyNext it) (fun r s1=>match r with
   | none=>R (.ok .next) s1
   | some v=>wpAny (model prog w) A (letOwnedTupleGo t2 it v) (fun _ s1'=>wpAny (model prog w) A (assign t2 env v) (fun _ s2=>
     wpAny (model prog w) A (eval kx env) (fun kv s4=>wpAny (model prog w) A (eval vx env) (fun vv s5=>
       wpAny (model prog w) A (dictSet D kv vv) (fun _ s6=>∃m,m<n/\I m s6) fL s5) fL s4) fL s2) fL s1') fL s1) fL s)
  (n:Nat) (h:I n s):codeAny (model prog w) A (.compLoop (.DictComp kx vx [⟨t1,i1,[],0⟩,⟨t2,i2,[],0⟩] scope pos) 1 it (.ref D) env) R s:=by
 refine codeAny_loop rfl I (fun n s hI=>(show wpAny _ A (Sem.onRaise (compTurn (.DictComp kx vx [⟨t1,i1,[],0⟩,⟨t2,i2,[],0⟩] scope pos) 1 it (.ref D) env) (fun x=>do noteFrame x env;theTreesLotGoes x)) _ _ s from wpAny_noted ?_)) n h
 refine wpAny_bind (wpAny_standAt (wpAny_bind (bE (aZ (turn n s hI) fun r s1 h1 =>?_))))
 cases r with
 | none=>exact wpAny_pure h1
 | some v=>
  refine wpAny_bind (bE (aZ h1 fun _ s1' h1' =>?_))
  refine wpAny_bind (bE (aZ h1' fun _ s2 h3=>wpAny_bind (wpAny_pure (a:=true) ?_)))
  exact wpAny_bind (wpAny_bind (bE (aZ h3 fun kv s4 h4=>wpAny_bind (wpAny_holding (bE (aZ h4 fun vv s5 h5=>wpAny_bind (wpAny_standAt (wpAny_holding (bE (aZ h5 fun _ s6 h6=>wpAny_pure ⟨rfl,h6⟩))))))))))
theorem qw (hs:∀x,foldedSetIterable i2 env x=pure x)(I:Nat->Shared->Prop)
  (turn:∀n s,I n s->wpAny (model prog w) A (pyNext it) (fun r s1=>match r with
   | none=>R (.ok .next) s1
   | some v=>wpAny (model prog w) A (letOwnedTupleGo t1 it v) (fun _ s1'=>wpAny (model prog w) A (assign t1 env v) (fun _ s2=>
     wpAny (model prog w) A (eval i2 env) (fun x s3=>wpAny (model prog w) A (pyIter x) (fun it2 s4=>
       codeAny (model prog w) A (.compStart (.DictComp kx vx [⟨t1,i1,[],0⟩,⟨t2,i2,[],0⟩] scope pos) 1 it2 (.ref D) env) (fun r s5=>match r with | .ok _=>∃m,m<n/\I m s5 | .error _=>False) s4) fL s3) fL s2) fL s1') fL s1) fL s)
  (n:Nat) (h:I n s):codeAny (model prog w) A (.compLoop (.DictComp kx vx [⟨t1,i1,[],0⟩,⟨t2,i2,[],0⟩] scope pos) 0 it (.ref D) env) R s:=by
 refine codeAny_loop rfl I (fun n s hI=>(show wpAny _ A (Sem.onRaise (compTurn (.DictComp kx vx [⟨t1,i1,[],0⟩,⟨t2,i2,[],0⟩] scope pos) 0 it (.ref D) env) (fun x=>do noteFrame x env;theTreesLotGoes x)) _ _ s from wpAny_noted ?_)) n h
 refine wpAny_bind (wpAny_standAt (wpAny_bind (bE (aZ (turn n s hI) fun r s1 h1 =>?_))))
 cases r with
 | none=>exact wpAny_pure h1
 | some v=>
  refine wpAny_bind (bE (aZ h1 fun _ s1' h1' =>?_))
  refine wpAny_bind (bE (aZ h1' fun _ s2 h3=>wpAny_bind (wpAny_pure (a:=true) ?_)))
  refine wpAny_bind (bE (aZ h3 fun x s3 h4=>wpAny_bind (wpAny_standAt (wpAny_bind (wpAny_of_eq (hs x) (wpAny_bind (wpAny_holding (bE (aZ h4 fun it2 s4 h5 =>?_)))))))))
  refine wpAny_bind (wpAny_runOwn (codeAny_mono h5 fun r s5 h6 =>?_))
  cases r with
  | ok f=>exact wpAny_pure ⟨rfl,h6⟩
  | error e=>exact h6.elim
theorem qd {acc:Value}(h0:codeAny (model prog w) A (.compLoop (.DictComp kx vx [⟨t1,i1,[],0⟩,⟨t2,i2,[],0⟩] scope pos) 1 it acc env) R s)
  (h:wpAny (model prog w) A (pyIter it) (fun it' s'=>codeAny (model prog w) A (.compLoop (.DictComp kx vx [⟨t1,i1,[],0⟩,⟨t2,i2,[],0⟩] scope pos) 1 it' acc env) R s') fL s) :
  codeAny (model prog w) A (.compStart (.DictComp kx vx [⟨t1,i1,[],0⟩,⟨t2,i2,[],0⟩] scope pos) 1 it acc env) R s:=by
 refine codeAny_of_tree ?_
 show wpAny _ A ((compStart (.DictComp kx vx [⟨t1,i1,[],0⟩,⟨t2,i2,[],0⟩] scope pos) 1 it acc env).onRaise (fun x=>do noteFrame x env;standAt theWindowsPlace)) _ _ s
 refine wpAny_notedAt ?_
 unfold compStart
 show wpAny _ A (ask >>= _) _ _ s
 refine wpAny_bind (wpAny_askSetting (wpAny_ite ?_))
 split
 ·first
   | exact wpAny_bind (wpAny_pure (wpAny_pure (And.intro rfl h0)))
   | exact wpAny_pure (And.intro rfl h0)
 ·first
   | exact wpAny_bind (wpAny_rule (wpAny_bind (wpAny_standAt (wpAny_bind (bE (aZ h fun it' s' h'=>wpAny_pure (And.intro rfl h')))))))
   | (refine wpAny_bind (wpAny_rule ?_);show wpAny _ _ (standAt i2.pos >>= _) _ _ s;exact wpAny_bind (wpAny_standAt (wpAny_bind (bE (aZ h fun it' s' h'=>wpAny_pure (And.intro rfl h'))))))
end
def yi (J:It)(n:Nat)(js:List Nat)(g:TG)(vU:TI)(i:Nat)(tk tv:TE)(σ:St)(D:Addr)(H1:Hp)(fin:Hp->Prop):Prop:=
 ∃W:Nat->Nat->Hp->Prop,(∃m,W 0 m H1)/\∀k m H,W k m H ->
  (J.stop k H/\fin H) ∨
  (J.go k H/\∀x H',J.yld k H x H'->g x (Jp n none++cR σ js) H' fun σ2 H2 =>σ2[i]? = some none/\vU σ2 H2 fun J2 H3=>∃V:Nat->Nat->Hp->Prop,(∃m2,V 0 m2 H3)/\∀k2 m2 H,V k2 m2 H ->
   (J2.stop k2 H/\∃m',m'<m/\W (k+1) m' H) ∨
   (J2.go k2 H/\∀y H',J2.yld k2 H y H'->tk (σ2.set i (some y)) H' fun kk H4=>tv (σ2.set i (some y)) H4 fun z H5=>cq fun kvs key=>H5 D=some (.dK kvs)/\kk=kV key/\kvs.length<sizeLine/\∃m',m'<m2/\V (k2+1) m' (upd H5 D (.dK (putK kvs key z)))))
def zS (wi:TI)(n:Nat)(js:List Nat)(g:TG)(vU:TI)(i:Nat)(tk tv:TE):TE:=fun σ H Q=>wi σ H fun J H1=>∀D,H1 D=none->yi J n js g vU i tk tv σ D (upd H1 D (.dK [])) fun H2=>Q (.ref D) H2
section
variable {X:Cx}{kx vx t1 i1 t2 i2:Expr}{scope:Scope}{pos:Pos}{vU:TI}{i:Nat}{tk tv:TE}{pins:List (Addr×Obj)}{s:Shared}{σ:St}{H:Hp}{D:Addr}{fin:Hp->Prop}
theorem xu (HN:X.xe=fL)(cP:X.calm=true)(vP:PI X t2 i2 vU)(DX:PG X t2 (fM i))(cY:PE X kx tk)(vO:PE X vx tv)(I:Inv X pins σ H s)(h0: σ[i]? = some none)
  (h:vU σ H fun J2 H3=>∃V:Nat->Nat->Hp->Prop,(∃m2,V 0 m2 H3)/\∀k2 m2 H,V k2 m2 H->(J2.stop k2 H/\fin H) ∨
   (J2.go k2 H/\∀y H',J2.yld k2 H y H'->tk (σ.set i (some y)) H' fun kk H4=>tv (σ.set i (some y)) H4 fun z H5=>cq fun kvs key=>H5 D=some (.dK kvs)/\kk=kV key/\kvs.length<sizeLine/\∃m',m'<m2/\V (k2+1) m' (upd H5 D (.dK (putK kvs key z)))))
  {R:Shared->Prop} (q:∀H' s',Inv X pins σ H' s'->fin H'->R s') :
  wpAny (model X.prog X.w) X.A (eval i2 X.env) (fun x s3=>wpAny (model X.prog X.w) X.A (pyIter x) (fun it2 s4=>
   codeAny (model X.prog X.w) X.A (.compStart (.DictComp kx vx [⟨t1,i1,[],0⟩,⟨t2,i2,[],0⟩] scope pos) 1 it2 (.ref D) X.env) (fun r s5=>match r with | .ok _=>R s5 | .error _=>False) s4) fL s3) fL s:=by
 have vP:=vP s σ H _ I h
 have QG:=DX
 have QQ:=cY
 have Qk:=vO
 rw[HN] at vP
 refine aZ vP fun v s1 h1=>aZ h1 fun D4 s2 h2 =>?_
 obtain⟨it,fp,tn,J,H2,e,I2,T,bN,f2,V,⟨m0,w0⟩,turn⟩:=h2
 subst e
 have fC:∀{H':Hp},(∀b∈fp,H' b=none)->∀b∈fp,eO X pins H' b:=fun hn b hb=>⟨hn b hb,(f2 b hb).2⟩
 have loop:∀t1',codeAny (model X.prog X.w) X.A (.compLoop (.DictComp kx vx [⟨t1,i1,[],0⟩,⟨t2,i2,[],0⟩] scope pos) 1 (.ref it) (.ref D) X.env) (fun r s5=>match r with | .ok _=>R s5 | .error _=>False) { s2 with toks:=t1' }:=by
  intro t1'
  refine qC (fun n s'=>∃k H',Inv X pins σ H' s'/\tn k s'.heap/\(∀b∈fp,H' b=none)/\V k n H') ?_ m0 ⟨0,H2,I2.tok _,bN,fun b hb=>(f2 b hb).1,w0⟩
  intro n s3
  refine ae.go ?_
  rintro k H3 I3 cN fr3 w3
  rcases turn k n H3 w3 with ⟨stop,qn⟩|⟨go,step⟩
  ·refine aZ (T.done X rfl rfl rfl cP k pins s3 σ H3 fL I3 (fC fr3) cN stop) fun r s4 hz_ =>?_
   refine ae.el hz_ _ ?_
   clear hz_
   rintro hr I4
   subst hr
   exact q H3 s4 I4 qn
  ·refine aZ (T.item X rfl rfl rfl cP k pins s3 σ H3 fL I3 (fC fr3) cN go) fun r s4 hz_ =>?_
   refine ae.el hz_ _ ?_
   clear hz_
   rintro u hr h4
   subst hr
   refine aZ h4 fun _ s5 hz_ =>?_
   refine ae.el hz_ _ ?_
   clear hz_
   rintro x H5 I5 r5 y5 cS fr5
   have Am:=I5.pinned (fC fr5) (T.obj _ _ cS)
   have hg:=DX s5 σ H5 x u (fun σ' H' =>σ' = σ.set i (some x)/\H'=H5) Am r5 ⟨rfl,rfl⟩
   rw[HN] at hg
   refine aZ hg fun _ s6 hz_ =>?_
   refine ae.el hz_ _ ?_
   clear hz_
   rintro σ6 H6 I6 e6 e6'
   subst e6 e6'
   have hk:=cY s6 _ _ _ I6 (step x _ y5)
   rw[HN] at hk
   refine aZ hk fun yv s8 hz_ =>?_
   refine ae.el hz_ _ ?_
   clear hz_
   rintro y H8 I8 r8 q8
   have hv:=vO s8 _ _ _ I8 q8
   rw[HN] at hv
   refine aZ hv fun zv s9 hz_ =>?_
   refine ae.el hz_ _ ?_
   clear hz_
   rintro z H9 I9 r9 q9
   refine ae.el (q9) _ ?_
   rintro kvs key eD ey hl m' uQ w9
   subst ey
   refine mi I9 eD hl r8 r9 fun s10 I10 =>?_
   refine⟨m',uQ,k+1,_,Inv.weak I10.dN (by rw[List.length_set]) fun j v hj =>?_,T.keep _ _ _ cS fun b hb o e=>(I10.pin (b,o) (Ji _ (Ji _ (bX hb e)))).1,fun b hb =>?_,w9⟩
   ·by_cases hji:j=i
    ·subst hji;rw[h0] at hj;cases hj
    ·rw[List.getElem?_set_ne (Ne.symm hji)];exact hj
   ·refine ae.el (T.obj _ _ cS b hb) _ ?_
    rintro o e d
    exact(I10.pin (b,o) (Ji _ (Ji _ (bX hb e)))).2.1
 exact qd (loop _) (T.self _ 0 _ _ _ bN (loop _))
end
theorem pZ {X:Cx}{kx vx tg iter t2 i2:Expr}{vU:TI}{FE:Nat}{scope:Scope}{pos:Pos}{Nc Fc:List Str}{js:List Nat}{wi:TI}{g:TG}{tk tv:TE}{use:Option (Value->Sem Unit)}{QV:Value->Shared->Prop}
  (cP:X.calm=true) (c:dQ X scope Nc Fc js) (hi:PI X tg iter wi)
  (hg:∀cl C s H fp,PG (fu X Nc Fc scope cl C s H fp) tg g) (vP:∀cl C s H fp,PI (fu X Nc Fc scope cl C s H fp) t2 i2 vU) (DX:∀cl C s H fp,PG (fu X Nc Fc scope cl C s H fp) t2 (fM FE)) (cY:∀cl C s H fp,PE (fu X Nc Fc scope cl C s H fp) kx tk) (vO:∀cl C s H fp,PE (fu X Nc Fc scope cl C s H fp) vx tv) (gk:Gk Nc.length g)
  {pins:List (Addr×Obj)} {s:Shared} {σ:St} {H:Hp} {fin:Addr->Hp->Prop} (I:Inv X pins σ H s)
  (h:wi σ H fun J H1=>∀D,H1 D=none->yi J Nc.length js g vU FE tk tv σ D (upd H1 D (.dK [])) (fin D))
  (behind:∀(C D:Addr) (m:Str->Option Value) (H2:Hp) (s2:Shared),Inv X pins σ H2 s2->s2.heap.Ns C m->eO X pins H2 C->fin D H2->compPost (model X.prog X.w) X.A X.xe use QV (.ref D) C (.ok .next) s2)
  (hs:∀x,foldedSetIterable iter X.env x=pure x) (zR:∀cl C s H fp x,foldedSetIterable i2 (fu X Nc Fc scope cl C s H fp).env x=pure x) :
  wpAny (model X.prog X.w) X.A (comprehension (.DictComp kx vx [⟨tg,iter,[],0⟩,⟨t2,i2,[],0⟩] scope pos) scope X.env (firstIterPos [⟨tg,iter,[],0⟩,⟨t2,i2,[],0⟩] pos) newDict false (eval iter X.env) use) QV X.xe s:=by
 obtain⟨cl,hclos,dr,gS⟩:=ig (scope:=scope) (env:=X.env) fun y hy hf=>I.ok.has y.1 (c.free y hy hf)
 refine wpAny_comprehension_free (use:=use) rfl hs hclos c.kind c.names ?_
 refine aZ (hi s σ H _ I h) fun v s1 h1=>aZ h1 fun D4 s2 h2 =>?_
 obtain⟨it,fp,tn,J,H2,e,I2,T,bN,f2,all⟩:=h2
 subst e
 refine wpAny_newObj_type (wpAny_newFunctionEnv c.nocell (by intro y hy;simp at hy) (fun h1 hns1 hsb1 =>?_) c.kind)
 dsimp only at hns1 hsb1 ⊢
 have Ay:H2 s2.heap.objs.size=none:=I2.bb.fresh (Je _)
 have yf:=I2.laid (a:=s2.heap.objs.size) (o := .dK []) (h':=s2.heap.push { cls := .type "dict",data := .dict #[] }) (t':=s2.toks) (fun _ _ q=>Jc _ q) (Je _) (iJ s2.heap I2.big)
 obtain⟨W,⟨m0,w0⟩,turn⟩:=all _ Ay
 have GR:∀b∈fp,∃o,s2.heap.get? b=some o:=fun b hb=>let ⟨o,e,_⟩:=T.obj 0 _ bN b hb; ⟨o,e⟩
 have lP:∀b∈fp,b<s2.heap.objs.size:=fun b hb=>let ⟨o,e⟩:=GR b hb;Jj e
 generalize hG:s2.heap.push { cls := .type "dict",dict:=none,data := .dict #[] } = G at hns1 hsb1 yf ⊢
 have toG:∀b o,s2.heap.get? b=some o->G.get? b=some o:=fun b o e=>hG▸Jc _ e
 have hC:G.objs.size=s2.heap.objs.size+1:=by rw[<-hG,Wl]
 have old:∀b o,G.get? b=some o->h1.get? b=some o:=fun b o e=>
  hsb1.extBut b o (cE (Jj e) (Je _)) (Jc _ e)
 let D:Addr:=s2.heap.objs.size
 let s2':Shared:={ s2 with heap:=G,toks:=s2.toks }
 let H2':Hp:=upd H2 D (.dK [])
 have B0:∀b∈fp,eO X pins H2' b:=fun b hb=>by
  obtain⟨a1,a2⟩:=f2 b hb
  refine⟨?_,a2⟩
  show upd H2 D (.dK []) b=none
  rw[ak (Jw (lP b hb))];exact a1
 have fo:∀b∈fp,∃o,s2'.heap.get? b=some o:=fun b hb=>let ⟨o,e⟩:=GR b hb; ⟨o,toG b o e⟩
 have MR:∀b∈fp,b<G.objs.size:=fun b hb=>by have:=lP b hb;rw[hC];exact Wf this
 let Xc:Cx:=fu X Nc Fc scope cl G.objs.size s2' H2' fp
 have fC:∀{H':Hp},(∀b∈fp,H' b=none)->∀b∈fp,eO Xc [] H' b:=fun{H'} hn b hb=>by
  refine⟨hn b hb,?_,?_,.inl hb,fun x a e =>?_,fun p hq =>?_⟩
  ·exact cE (MR b hb) (Je _)
  ·exact(kX yf c dr gS (Je _) B0 fo).exfs b hb
  ·exact(f2 b hb).2.2.2.2.1 x a (dr _ _ e)
  ·have q:p∈([]:List (Addr×Obj))++[]:=hq
   simp at q
 have loop:∀t1,codeAny (model X.prog X.w) X.A (.compLoop (.DictComp kx vx [⟨tg,iter,[],0⟩,⟨t2,i2,[],0⟩] scope pos) 0 (.ref it) (.ref s2.heap.objs.size) (compEnvC scope cl G.objs.size X.env))
   (compPost (model X.prog X.w) X.A X.xe use QV (.ref s2.heap.objs.size) G.objs.size) { s2 with heap:=h1,toks:=t1 }:=by
  intro t1
  refine qw (zR cl G.objs.size s2' H2' fp) (fun n s'=>∃i H',Inv Xc [] (Jp Nc.length none++cR σ js) H' s'/\tn i s'.heap/\(∀b∈fp,H' b=none)/\W i n H') ?_ m0
   ⟨0,H2',qG yf c dr gS (Je _) B0 fo old hns1,T.keep _ _ _ bN (fun b hb o e=>old b o (toG b o e)),fun b hb=>(B0 b hb).1,w0⟩
  intro n s3
  refine ae.go ?_
  rintro i H3 I3 cN fr3 w3
  rcases turn i n H3 w3 with ⟨stop,qn⟩|⟨go,step⟩
  ·refine aZ (T.done Xc rfl rfl rfl cP i _ s3 _ H3 fL I3 (fC fr3) cN stop) fun r s4 hz_ =>?_
   refine ae.el hz_ _ ?_
   clear hz_
   rintro hr I4
   subst hr
   show compPost _ _ _ _ _ _ _ _ _
   refine ae.el (I4.loc) _ ?_
   rintro mC hmC _
   have Fw:H3 G.objs.size=none:=I4.free
   have u:Un (nq X.stack) fp H2' H3 G s4.heap:=I4.base
   have o8:∀b∈fp,(b∈X.ex∨X.s₀.heap.objs.size<=b)/\b≠X.env.locals/\(∀x c,X.env.cells.lookup x=some c->c≠b)/\∀p∈X.pn++pins,p.1≠b:=fun b hb=>
    ⟨(f2 b hb).2.2.2.1,(f2 b hb).2.1,(f2 b hb).2.2.2.2.1,(f2 b hb).2.2.2.2.2⟩
   have EJ:s4.os=s2'.os:=I4.os
   have J4:Inv X pins σ H3 s4:=yf.tw (H':=H3) EJ u I4.bb I4.bare o8
   exact behind G.objs.size D mC H3 s4 J4 hmC (yf.jF (Je _) Fw) qn
  ·refine aZ (T.item Xc rfl rfl rfl cP i _ s3 _ H3 fL I3 (fC fr3) cN go) fun r s4 hz_ =>?_
   refine ae.el hz_ _ ?_
   clear hz_
   rintro u hr h4
   subst hr
   show wpAny _ _ (letOwnedTupleGo tg (.ref it) u) _ _ _
   refine aZ h4 fun _ s5 hz_ =>?_
   refine ae.el hz_ _ ?_
   clear hz_
   rintro x H5 I5 r5 y5 cS fr5
   have Am:=I5.pinned (fC fr5) (T.obj _ _ cS)
   refine aZ (hg cl G.objs.size s2' H2' fp s5 _ H5 x u _ Am r5 (gk _ _ _ _ (step x H5 y5))) fun _ s6 ⟨σ6,H6,I6,⟨q60,q6⟩,kσ,kl⟩=>?_
   have later:∀{σ':St} {H':Hp} {s':Shared},Inv Xc ([]++eG fp s5.heap) σ' H' s'->tn (i+1) s'.heap/\∀b∈fp,H' b=none:=fun{σ' H' s'} Iz=>by
    refine⟨T.keep _ _ _ cS fun b hb o e=>(Iz.pin (b,o) (Ji _ (Ji _ (bX hb e)))).1,fun b hb =>?_⟩
    refine ae.el (T.obj _ _ cS b hb) _ ?_
    rintro o e d
    exact(Iz.pin (b,o) (Ji _ (Ji _ (bX hb e)))).2.1
   have back:∀{pl:List (Addr×Obj)} {H':Hp} {s':Shared},Inv Xc pl σ6 H' s'->Inv Xc pl (Jp Nc.length none++cR σ js) H' s':=fun{pl H' s'} Iz=>by
    refine Iz.weak (by rw[<-kl]) fun j v hj =>?_
    by_cases hn:j<Nc.length
    ·rw[J6 (by simpa using hn),U0] at hj
     split at hj<;>cases hj
    ·rw[kσ j (by omega)];exact hj
   refine xu (X:=Xc) rfl cP (vP cl G.objs.size s2' H2' fp) (DX cl G.objs.size s2' H2' fp) (cY cl G.objs.size s2' H2' fp) (vO cl G.objs.size s2' H2' fp) I6 q60 q6 fun H7 s7 I7 q7 =>?_
   refine ae.el (q7) _ ?_
   rintro m' uQ w7
   obtain⟨l1,l2⟩:=later I7
   exact⟨m',uQ,i+1,H7,back I7.dN,l1,l2,w7⟩
 exact codeAny_compStart_dict (loop _) (T.self _ 0 _ _ _ (T.keep _ _ _ bN fun b hb o e=>old b o (toG b o e)) (loop _))
theorem uY {X:Cx}{kx vx tg iter t2 i2:Expr}{vU:TI}{FE:Nat}{scope:Scope}{pos:Pos}{Nc Fc:List Str}{js:List Nat}{wi:TI}{g:TG}{tk tv:TE}
  (cP:X.calm=true) (c:dQ X scope Nc Fc js) (hi:PI X tg iter wi) (gk:Gk Nc.length g)
  (hg:∀cl C s H fp,PG (fu X Nc Fc scope cl C s H fp) tg g) (vP:∀cl C s H fp,PI (fu X Nc Fc scope cl C s H fp) t2 i2 vU) (DX:∀cl C s H fp,PG (fu X Nc Fc scope cl C s H fp) t2 (fM FE)) (cY:∀cl C s H fp,PE (fu X Nc Fc scope cl C s H fp) kx tk) (vO:∀cl C s H fp,PE (fu X Nc Fc scope cl C s H fp) vx tv)
  (hs:∀x,foldedSetIterable iter X.env x=pure x:=by intro _;rfl) (zR:∀cl C s H fp x,foldedSetIterable i2 (fu X Nc Fc scope cl C s H fp).env x=pure x:=by intros;rfl) :
  PE X (.DictComp kx vx [⟨tg,iter,[],0⟩,⟨t2,i2,[],0⟩] scope pos) (zS wi Nc.length js g vU FE tk tv):=by
 intro pins s σ H Q I h
 rw[arm_eval_DictComp]
 refine pZ (use:=none) (fin:=fun D H2=>Q (.ref D) H2) cP c hi hg vP DX cY vO gk I h (fun C D m H2 s2 I2 hm hC q =>?_) hs zR
 refine⟨m,hm,fun h' hs' =>?_⟩
 exact⟨.ref D,_,I2.turned (it:=C) (t':=s2.toks) (fun b o hb e=>hs'.extBut b o hb e) hC.1 (hC.2.1) hC.2.2.2.1 hC.2.2.2.2.1 hC.2.2.2.2.2,rfl,q⟩
structure BB (prog:Program)(w:World)(A:Around)(it S:Addr)(fp:Addr->Prop)(n:Nat)(P:Nat->Value->Heap->Prop)(R:Value->Value->Prop)(St:Nat->Heap->Prop):Prop where
 sfp:¬fp S
 item:∀i (s:Shared) (Q:Option Value->Shared->Prop) (E:Value->Shared->Prop),i<n->St i s.heap->S<s.heap.objs.size ->
  (∀v h' tk,Keeps s.heap h' fp->St (i+1) h'->P i v h'->(∀j u,P j u s.heap->R u v)->Q (some v) { s with heap:=h',toks:=tk })->wpAny (model prog w) A (pyNext (.ref it)) Q E s
 stop:∀(s:Shared) (Q:Option Value->Shared->Prop) (E:Value->Shared->Prop),St n s.heap->S<s.heap.objs.size->(∀h' tk,Keeps s.heap h' fp->Q none { s with heap:=h',toks:=tk })->wpAny (model prog w) A (pyNext (.ref it)) Q E s
 keepS:∀i h h',St i h->Keeps h h' (· = S)->St i h'
 keepP:∀j v h h',P j v h->Keeps h h' (fun b=>fp b∨b=S)->P j v h'
section
variable {prog:Program}{w:World}{A:Around}{it S:Addr}{fp:Addr->Prop}{n:Nat}{P:Nat->Value->Heap->Prop}{R:Value->Value->Prop}{St:Nat->Heap->Prop}
theorem lh (Fd:BB prog w A.in1 it S fp n P R St)(hn:n<=sizeLine){s:Shared}{Z:Result->Shared->Prop}{res:Value}{g:Heap}(fin:jT g S fp n P R s (Z (.ok (.ret res)))):
  ∀(k i:Nat) (h:Heap) (tk:Nat) (acc:Array Value) (c:Nat),i+k=n->St i h->pP h S i P R acc c->Keeps g h (fun b=>fp b∨b=S) ->
   codeAny (model prog w) A (.builtin "list.extend.loop" ⟨[.ref S,.ref it,res],[]⟩) Z { s with heap:=h,toks:=tk }
 | 0,i,h,tk,acc,c,hk,iy,G,kp=>by
  have e:i=n:=by omega
  subst e
  refine codeAny_builtin PySem.F.entry_extend_loop ?_
  rw[Around.under_plainId PySem.F.plain_extend_loop _]
  refine wpAny_bind (Fd.stop { s with heap:=h,toks:=tk } _ _ iy (Jj G.ob) fun h' tk' k'=>wpAny_pure ?_)
  exact fin h' tk' acc c (fun b o nb q=>k' b o (fun z=>nb (.inl z)) (kp b o nb q)) ⟨k' _ _ Fd.sfp G.ob,G.sz,G.pw,fun j v e=>Fd.keepP _ _ _ _ (G.all j v e) fun b o nb q=>k' b o (fun z=>nb (.inl z)) q⟩
 | k+1,i,h,tk,acc,c,hk,iy,G,kp=>by
  refine codeAny_builtin PySem.F.entry_extend_loop ?_
  rw[Around.under_plainId PySem.F.plain_extend_loop _]
  refine wpAny_bind (Fd.item i { s with heap:=h,toks:=tk } _ _ (by omega) iy (Jj G.ob) fun v h' tk' k' aE pv rv =>?_)
  have CT:=k' _ _ Fd.sfp G.ob
  have other:Keeps h' (h'.update S (Obj.mapSeq (·.push v))) (· = S):=fun b o nb q=>(Uk _ _ (Ne.symm nb)).trans q
  have k2:Keeps h (h'.update S (Obj.mapSeq (·.push v))) (fun b=>fp b∨b=S):=fun b o nb q=>other b o (fun z=>nb (.inr z)) (k' b o (fun z=>nb (.inl z)) q)
  have sz:=G.sz
  refine wpAny_bind (wpAny_updateSeq CT rfl (wpAny_pure ⟨plainId_quiet PySem.F.plain_extend_loop _,?_⟩) (by rw[sz];omega) (by show(acc.push v).size<=sizeLine+1;rw[Wc,sz];omega))
  refine lh Fd hn fin k (i+1) _ tk' (acc.push v) _ (by omega) (Fd.keepS _ _ _ aE other) ⟨Ux _ CT rfl,by rw[Wc,sz],?_,fun j u e =>?_⟩ (fun b o nb q=>k2 b o nb (kp b o nb q))
  ·rw[U9]
   refine J8.mpr ⟨G.pw,Y6 _ _,fun a ha b hb =>?_⟩
   obtain⟨j,hj⟩:=U3.mp ha
   rw[Jg.mp hb]
   exact rv j a (G.all j a (by simpa using hj))
  ·by_cases hj:j<i
   ·rw[Array.getElem?_push_lt (by omega)] at e
    exact Fd.keepP _ _ _ _ (G.all j u (by rw[J7 (by omega)];exact e)) k2
   ·have w4:j=i:=by
     have:=(Array.getElem?_eq_some_iff.mp e).1
     rw[Wc] at this
     omega
    subst w4
    have e':(acc.push v)[acc.size]? = some u:=by rw[sz];exact e
    rw[Array.getElem?_push_size] at e'
    cases e'
    exact Fd.keepP _ _ _ _ pv fun b o nb q=>other b o (fun z=>nb (.inr z)) q
end
theorem dG:Slot "set_iterator" "__next__" "set_iterator.__next__":=by
 refine .of (owner := "set_iterator") (n := "__next__") ?_ ?_ ?_ ?_ ?_ ?_
 ·rw[typeLookup_type,builtinLookup_eq_fast];kernel_rfl
 ·decide +kernel
 ·decide +kernel
 ·decide +kernel
 ·first
   | exact .inl (by decide +kernel)
   | exact .inr (by decide +kernel)
 ·rw[isSubtype_type];kernel_rfl
theorem iG:entryFor table "set_iterator.__next__" = some Builtin.«set_iterator.__next__»:=entryFor_of_fast (by kernel_rfl)
theorem jE (a:Value):argsOk "set_iterator.__next__" ⟨[a],[]⟩:=by
 unfold argsOk
 rw[signature?_of (id := "set_iterator.__next__") (n := "__txen__".toList) (o := "rotareti_tes".toList) (rows:=Manifest.sig_set_iterator) (by kernel_rfl) (by kernel_rfl)]
 kernel_rfl
theorem lG:entryFor table "set.__iter__" = some Builtin.«frozenset.__iter__»:=entryFor_alias (id' := "frozenset.__iter__") (by kernel_rfl) rfl (by decide +kernel) (by kernel_rfl)
theorem g8 {α:Type}:∀{l:List α} {i:Nat} (h:i<l.length),U2 (l[i]::l.eraseIdx i) l
 | x::l,0,h=>U2.refl _
 | x::l,i+1,h=>by
  rw[List.eraseIdx_cons_succ,List.getElem_cons_succ]
  exact(U2.swap _ _ _).trans ((g8 (Nat.lt_of_succ_lt_succ h)).cons x)
theorem tY {α:Type}(next:Nat->Nat):∀(n k:Nat) (left:List α) (out:Array α),left.length=n->U2 (pickOrder.go next n k left out).toList (out.toList++left)
 | 0,k,left,out,h=>by
  unfold pickOrder.go
  rw[J5 h,U6]
 | n+1,k,left,out,h=>by
  unfold pickOrder.go
  have hp:next k%left.length<left.length:=Nat.mod_lt _ (by omega)
  rw[Jd hp]
  dsimp only
  refine(tY next n (k+1) _ _ (by rw[List.length_eraseIdx,if_pos hp];omega)).trans ?_
  rw[U9,Ul]
  refine U2.append_left _ ?_
  rw[List.singleton_append]
  exact g8 hp
theorem vJ {α:Type}(next:Nat->Nat)(xs:Array α):U2 (pickOrder next xs).toList xs.toList:=tY next _ 0 _ #[] rfl
theorem qY {M:Model}{A:Around}{E:Value->Shared->Prop}{α:Type}:∀(n:Nat) (xs:List α) (s:Shared) (Q:List α->Shared->Prop),xs.length=n ->
  (∀ys d,U2 ys xs->Q ys { s with drawn:=d })->wpAny M A (drawOrder n xs) Q E s:=by
 intro n
 induction n with
 | zero=>
  intro xs s Q h q
  unfold drawOrder
  exact wpAny_pure (q [] s.drawn (by rw[J5 h]))
 | succ n ih=>
  intro xs s Q h q
  cases xs with
  | nil=>cases h
  | cons x xs=>
   unfold drawOrder
   refine wpAny_bind (fun Γ p hΓ =>?_)
   unfold choose
   rw[Sem.wp_choose]
   refine⟨by simp,?_⟩
   have hp:M.w.draws .order (s.drawn.get .order)%(x::xs).length<(x::xs).length:=Nat.mod_lt _ (by simp)
   generalize M.w.draws .order (s.drawn.get .order)%(x::xs).length=i at hp ⊢
   rw[Sem.wp_pure]
   dsimp only
   rw[Jd hp]
   refine wpAny_bind (ih _ _ _ (by rw[List.length_eraseIdx,if_pos hp];omega) fun ys d hy=>wpAny_pure (q _ d ?_))
   exact(hy.cons _).trans (g8 hp)
noncomputable def C1 (w:World):Bool:=w.params.followText "set-order"
inductive xY (w:World)(a:Addr)(es:Array (Int×Value))(ep:Nat)(t:SetTable)(lo i:Nat)(h:Heap)(it:Addr):Value->List Value->Prop
 | text (b:C1 w=true):xY w a es ep t lo i h it (.int 0 0) ((pickOrder (w.params.setOrder a ep) es).toList.map (·.2))
 | places (b:C1 w=false) (d:(!t.plain&&decide (es.size>1))=false) (l:t.led=true) (z:Nat) (c:Cut t.place z i):xY w a es ep t lo i h it (.int (z:Int) 0) (es.toList.map (·.2))
 | drawn (ys:List Nat) (p:U2 ys (Uu es.size)) (tp:Addr) (low:lo<=tp) (ne:tp≠it) (o:Obj) (n:Nat) (e:h.get? tp=some o) (d:o.data = .seq (ys.map fun(k:Nat)=>rawInt k).toArray n):xY w a es ep t lo i h it (.ref tp) (ys.map fun k=>(es.toList.map (·.2)).getD k .none)
structure Bg (w:World)(a:Addr)(es:Array (Int×Value))(ep:Nat)(t:SetTable)(lo:Nat)(vals:List Value)(it:Addr)(i:Nat)(h:Heap):Prop where
 set:∃o,h.get? a=some o/\o.data = .set es ep t
 fit:t.fits es.size=true
 good:cO t
 ne:a≠it
 low:lo<=it
 ex:∃first,xY w a es ep t lo i h it first vals/\h.get? it=some { cls := .type "set_iterator",data := .fields #[first,.int i 0,.ref a,.int es.size 0,.int ep 0] }
theorem Bg.keep {w:World}{a:Addr}{es:Array (Int×Value)}{ep:Nat}{t:SetTable}{lo:Nat}{vals:List Value}{it:Addr}{i:Nat}{h h':Heap}(x:Bg w a es ep t lo vals it i h)(k:∀b o,h.get? b=some o->(b=a∨lo<=b)->h'.get? b=some o):Bg w a es ep t lo vals it i h':=by
 obtain⟨⟨o,e1,e2⟩,ft,g,ne,low,first,so,e3⟩:=x
 refine⟨⟨o,k _ _ e1 (.inl rfl),e2⟩,ft,g,ne,low,first,?_,k _ _ e3 (.inr low)⟩
 cases so with
 | text b=>exact .text b
 | places b d l z c=>exact .places b d l z c
 | drawn ys p tp tl ne o n e d=>exact .drawn ys p tp tl ne o n (k _ _ e (.inr tl)) d
section
variable {prog:Program}{w:World}{A:Around}{E:Value->Shared->Prop}{s:Shared}{a:Addr}{es:Array (Int×Value)}{ep:Nat}{t:SetTable}{o:Obj}{lo:Nat}
theorem w6 {Q:Value->Shared->Prop}(ho:s.heap.get? a=some o)(hx:o.ExactSet)(hd:o.data = .set es ep t)(hf:t.fits es.size=true)(g:cO t)(l:C1 w=false->t.led=true)(hz:es.size<=sizeLine)
  (fin:∀it h' d vals,vals.length=es.size->U2 vals (es.toList.map (·.2))->s.heap.objs.size<=it->(∀b o,s.heap.get? b=some o->h'.get? b=some o)->Bg w a es ep t s.heap.objs.size vals it 0 h'->Q (.ref it) { s with heap:=h',drawn:=d }) :
  wpAny (model prog w) A (pyIter (.ref a)) Q E s:=by
 have hT:s.TypeIs (.ref a) "set":=⟨o,ho,hx.1⟩
 have low:a<s.heap.objs.size:=Jj ho
 refine wpAny_pyIter_slot hT F.slot_set_iter (wpAny_call_entry F.slot_set_iter hT lG ?_ (F.args_set_iter_1 _))
 unfold Builtin.«frozenset.__iter__» Builtin.Frozenset.slot0 slotArgs Builtin.Frozenset.addrOf Builtin.Frozenset.sizeOf setEntries setDrawn setEpoch setsByText
 simp -iota only [List.isEmpty_nil,Bool.not_true,J9, ↓reduceIte,bind_assoc,Yn,bne_self_eq_false]
 dsimp only
 try simp -iota only [bind_assoc,J9, ↓reduceIte]
 refine wpAny_bind (wpAny_pure (wpAny_bind (wpAny_pure (wpAny_bind (wpAny_setState_of ho hd hf (wpAny_bind (wpAny_pure (wpAny_bind (wpAny_pure (wpAny_bind (wpAny_setState_of ho hd hf ?_)))))))))))
 refine wpAny_bind (wpAny_askSetting (wpAny_bind (wpAny_pure (wpAny_bind (wpAny_pure ?_)))))
 have last:∀(s1:Shared) (d:Drawn) (first:Value) (vals:List Value),s1.drawn=d->s1.gens=s.gens->s1.toks=s.toks->s1.os=s.os->(∀b o,s.heap.get? b=some o->s1.heap.get? b=some o)->s.heap.objs.size<=s1.heap.objs.size->vals.length=es.size->U2 vals (es.toList.map (·.2)) ->
   (∀h' it,s1.heap.objs.size<=it->(∀b o,s1.heap.get? b=some o->h'.get? b=some o)->xY w a es ep t s.heap.objs.size 0 h' it first vals) ->
   wpAny (model prog w) A.in1 (do
    let x <-setState a
    let y <-pure x.2.1
    let z <-newFields "set_iterator" [first,rawInt 0,.ref a,rawInt es.size,rawInt y]
    ret z) (fun fin s'=>∃v,fin = .done (.ret v)/\∃T' r,s'.TypeIs v T'/\typeLookup (.type T') (Str.ofString "__next__")=pure (some r)/\Q v s') E s1:=by
  intro s1 d first vals e1 e2 e3 e4 k1 z1 hl hp so
  refine wpAny_bind (wpAny_setState_of (k1 _ _ ho) hd hf (wpAny_bind (wpAny_pure ?_)))
  unfold newFields
  refine wpAny_bind (wpAny_newObj_type (wpAny_pure ?_))
  refine⟨_,rfl, "set_iterator",_,⟨_,Js _ rfl,rfl⟩,dG.lookup,?_⟩
  have k2:∀b o,s1.heap.get? b=some o->(s1.heap.push { cls := .type "set_iterator",data := .fields [first,rawInt 0,.ref a,rawInt es.size,rawInt ep].toArray }).get? b=some o:=fun b o x=>Jc _ x
  have q:=fin s1.heap.objs.size (s1.heap.push { cls := .type "set_iterator",data := .fields [first,rawInt 0,.ref a,rawInt es.size,rawInt ep].toArray }) d vals hl hp z1 (fun b o x=>k2 b o (k1 b o x)) ⟨⟨o,k2 _ _ (k1 _ _ ho),hd⟩,hf,g,Jw (Jt low z1),z1,first,so _ _ (Je _) k2,Js _ rfl⟩
  subst e1
  rw[<-e2,<-e3,<-e4] at q
  exact q
 have lv:(es.toList.map (·.2)).length=es.size:=by rw[Ja,Jv]
 cases hb:C1 w with
 | true=>
  have o9:w.params.followText "set-order" = true:=hb
  refine wpAny_ite ?_
  rw[if_neg (by show ¬((!w.params.followText "set-order" && _)=true);rw[o9];exact Ju)]
  refine wpAny_bind (wpAny_pure ?_)
  have pm:=vJ (w.params.setOrder a ep) es
  exact last s s.drawn _ _ rfl rfl rfl rfl (fun _ _ x=>x) (Je _) (by rw[Ja,pm.length_eq,Jv]) (pm.map _) fun h' it _ _ =>.text hb
 | false=>
  have o9:w.params.followText "set-order" = false:=hb
  refine wpAny_ite ?_
  cases hc:(!t.plain&&decide (es.size>1)) with
  | false=>
   rw[if_neg (by show ¬((!w.params.followText "set-order" && (!t.plain&&decide (es.size>1)))=true);rw[o9,hc];exact Ju)]
   refine wpAny_bind (wpAny_pure ?_)
   exact last s s.drawn _ _ rfl rfl rfl rfl (fun _ _ x=>x) (Je _) lv (U2.refl _) fun h' it _ _ =>.places hb hc (l hb) 0 ⟨Um _,fun i _ z=>absurd z (Nat.not_lt_zero _),fun i _ _=>Um _⟩
  | true=>
   rw[if_pos (by show(!w.params.followText "set-order" && (!t.plain&&decide (es.size>1)))=true;rw[o9,hc];rfl)]
   refine wpAny_bind (qY _ _ _ _ Yf fun ys d hy =>?_)
   have Ih:ys.length=es.size:=by rw[hy.length_eq,Yf]
   refine wpAny_bind (wpAny_newTuple ?_ (by rw[Ja,Ih];exact hz))
   have rm:U2 (ys.map fun k=>(es.toList.map (·.2)).getD k .none) (es.toList.map (·.2)):=by
    refine(hy.map _).trans ?_
    have:(Uu es.size).map (fun k=>(es.toList.map (·.2)).getD k .none)=es.toList.map (·.2):=by
     refine List.ext_getElem (by rw[Ja,Yf,lv]) fun i h1 h2 =>?_
     rw[List.getElem_map,List.getElem_range,Yt,Jd h2];rfl
    rw[this]
   refine last { s with heap:=s.heap.push { cls := .type "tuple",data := .seq (ys.map fun(i:Nat)=>rawInt i).toArray },drawn:=d } d _ _ rfl rfl rfl rfl (fun b o x=>Jc _ x) (by show _<=(s.heap.push _).objs.size;rw[Wl];exact Yw _) (by rw[Ja,Ih]) rm fun h' it hit k' =>?_
   refine .drawn ys hy _ (Je _) ?_ _ 0 (k' _ _ (Js _ rfl)) rfl
   have hit:(s.heap.push { cls := .type "tuple",data := .seq (ys.map fun(i:Nat)=>rawInt i).toArray }).objs.size<=it:=hit
   rw[Wl] at hit
   exact Jw hit
theorem mO {Q:Array (Int×Value)->Shared->Prop}(b:C1 w=true)(ho:s.heap.get? a=some o)(hd:o.data = .set es ep t)(hf:t.fits es.size=true)(q:Q (pickOrder (w.params.setOrder a ep) es) s):wpAny (model prog w) A (setWalk a) Q E s:=by
 unfold setWalk setsByText
 have b':w.params.followText "set-order" = true:=b
 refine wpAny_bind (wpAny_setState_of ho hd hf (wpAny_bind (wpAny_bind (wpAny_askSetting (wpAny_pure ?_)))))
 refine wpAny_ite ?_
 rw[if_pos (show({ program:=(model prog w).prog,params:=(model prog w).w.params }:Setting).params.followText "set-order" = true from b')]
 exact wpAny_bind (wpAny_askSetting (wpAny_pure q))
theorem yG {vals:List Value}{it:Addr}{i:Nat}{v:Value}{Q:Option Value->Shared->Prop}(st:Bg w a es ep t lo vals it i s.heap)(hv:vals[i]? = some v)
  (fin:∀h',(∀b o,b≠it->s.heap.get? b=some o->h'.get? b=some o)->h'.objs.size=s.heap.objs.size->Bg w a es ep t lo vals it (i+1) h'->Q (some v) { s with heap:=h' }) :
  wpAny (model prog w) A (pyNext (.ref it)) Q E s:=by
 obtain⟨⟨o,ho,hd⟩,hf,g,ne,low,first,so,e⟩:=st
 have hT:s.TypeIs (.ref it) "set_iterator":=⟨_,e,rfl⟩
 refine wpAny_bind (wpAny_attempt (wpAny_callSpecial?_slot (name:=Str.ofString "__next__") hT dG (wpAny_call_entry dG hT iG ?_ (jE _))))
 unfold Builtin.«set_iterator.__next__» slotArgs setEntries setNext setsByText
 simp -iota only [List.isEmpty_nil,Bool.not_true,J9, ↓reduceIte,bind_assoc,Yn,bne_self_eq_false]
 dsimp only
 try simp -iota only [bind_assoc,J9, ↓reduceIte]
 refine wpAny_bind (wpAny_pure (wpAny_bind (wpAny_fieldsOf e rfl ?_)))
 dsimp only
 refine wpAny_bind (wpAny_setState_of ho hd hf (wpAny_bind (wpAny_pure ?_)))
 refine wpAny_ite ?_
 rw[if_neg (by simp)]
 cases so with
 | text b=>
  have b':w.params.followText "set-order" = true:=b
  refine wpAny_bind (wpAny_setState_of ho hd hf (wpAny_bind (wpAny_askSetting (wpAny_bind (wpAny_pure ?_)))))
  refine wpAny_bind (wpAny_ite ?_)
  rw[if_pos (show({ program:=(model prog w).prog,params:=(model prog w).w.params }:Setting).params.followText "set-order" = true from b')]
  refine wpAny_ite ?_
  rw[if_neg (by simp)]
  refine wpAny_bind (mO b ho hd hf (wpAny_pure ?_))
  have hx:((pickOrder (w.params.setOrder a ep) es)[(i:Int).toNat]?).map (fun e=>(e.2,(0:Int).toNat))=some (v,0):=by
   rw[U8,<-Ua]
   rw[Jk] at hv
   cases q:(pickOrder (w.params.setOrder a ep) es).toList[i]? with
   | none=>rw[q] at hv;cases hv
   | some y=>rw[q] at hv;cases hv;rfl
  rw[hx]
  refine wpAny_bind (wpAny_setField_rec e (by simp) fun h1 e1 s1=>wpAny_bind (wpAny_setField_rec (s:={ s with heap:=h1 }) e1 (by simp) fun h2 e2 s2 =>?_))
  refine wpAny_pure ⟨_,rfl,wpAny_pure (fin h2 (fun b o nb x=>s2.extBut b o nb (s1.extBut b o nb x)) (s2.1.trans s1.1) ⟨⟨o,s2.extBut _ _ ne (s1.extBut _ _ ne ho),hd⟩,hf,g,ne,low,_,.text b,?_⟩)⟩
  simpa [rawInt] using e2
 | places b d l z c=>
  have b':w.params.followText "set-order" = false:=b
  have yN:t.place.size=es.size:=by
   have:=hf
   simp only[SetTable.fits,Uv,beq_iff_eq] at this
   exact this.1
  have hi:i<es.size:=by
   have:=(Jx.mp hv).1
   rwa[Ja,Jv] at this
  refine wpAny_bind (wpAny_setState_of ho hd hf (wpAny_bind (wpAny_askSetting (wpAny_bind (wpAny_pure ?_)))))
  refine wpAny_bind (wpAny_ite ?_)
  rw[if_neg (by show ¬(w.params.followText "set-order" = true);rw[b'];exact Ju)]
  refine wpAny_ite ?_
  rw[if_neg (by show ¬((!t.plain&&decide (es.size>1))=true);rw[d];exact Ju)]
  refine wpAny_bind ?_
  show wpAny _ _ (if (!t.led && !es.isEmpty)=true then unsupported "set:maker-not-led" else pure ()) _ _ _
  rw[l]
  refine wpAny_pure ?_
  have C7:SetTable.below t.place ((z:Int)).toNat=i:=by
   rw[U8]
   have c2:=ff g.2 z
   have h1:¬SetTable.below t.place z<i:=fun q=>by
    have hs:SetTable.below t.place z<t.place.size:=by omega
    have:=c2.hi _ hs (Je _)
    have:=c.lo _ hs q
    omega
   have h2:¬i<SetTable.below t.place z:=fun q=>by
    have hs:i<t.place.size:=by omega
    have:=c2.lo _ hs q
    have:=c.hi _ hs (Je _)
    omega
   omega
  refine wpAny_pure ?_
  dsimp only
  rw[C7,J7 hi,J7 (show i<t.place.size by omega)]
  have NF:es[i].2=v:=by
   rw[Jk,Ua,J7 hi] at hv
   injection hv
  dsimp only
  rw[NF]
  refine wpAny_bind (wpAny_setField_rec e (by simp) fun h1 e1 s1=>wpAny_bind (wpAny_setField_rec (s:={ s with heap:=h1 }) e1 (by simp) fun h2 e2 s2 =>?_))
  refine wpAny_pure ⟨_,rfl,wpAny_pure (fin h2 (fun b o nb x=>s2.extBut b o nb (s1.extBut b o nb x)) (s2.1.trans s1.1) ⟨⟨o,s2.extBut _ _ ne (s1.extBut _ _ ne ho),hd⟩,hf,g,ne,low,_,.places b d l (t.place[i]+1) ?_,?_⟩)⟩
  ·have c3:=ff g.2 (t.place[i]+1)
   rw[Cut.next g.2 (by omega) c3] at c3
   exact c3
  ·simpa [rawInt] using e2
 | drawn ys p tp tl nt ot n et dt=>
  dsimp only
  unfold seqItems?
  refine wpAny_bind (wpAny_bind (wpAny_load et ?_))
  rw[dt]
  refine wpAny_pure ?_
  dsimp only
  rw[Jk] at hv
  cases hy:ys[i]? with
  | none=>rw[hy] at hv;cases hv
  | some y=>
   rw[hy] at hv
   injection hv with hv
   have ND:y<es.size:=Yr.mp (p.mem_iff.mp (Wd hy))
   have oY:(ys.map fun(k:Nat)=>rawInt k).toArray[(i:Int).toNat]? = some (rawInt y):=by
    rw[U8,List.getElem?_toArray,Jk,hy];rfl
   rw[oY]
   have yO:es[y].2=v:=by
    rw[<-hv]
    dsimp only
    rw[Yt,Jk,Ua,J7 ND];rfl
   show wpAny _ _ (setNextDrawn a ((y:Int)).toNat ((ep:Int)).toNat >>= _) _ _ _
   rw[U8,U8]
   unfold setNextDrawn
   refine wpAny_bind (wpAny_bind (wpAny_setState_of ho hd hf ?_))
   dsimp only
   refine wpAny_ite ?_
   rw[if_neg (by simp),J7 ND]
   refine wpAny_pure ?_
   show wpAny _ _ (setField (.ref it) 1 (rawInt ((i:Int)+1)) >>= fun _=>ret es[y].2) _ _ _
   rw[yO]
   refine wpAny_bind (wpAny_setField_rec e (by simp) fun h1 e1 s1 =>?_)
   refine wpAny_pure ⟨_,rfl,wpAny_pure (fin h1 (fun b o nb x=>s1.extBut b o nb x) s1.1 ⟨⟨o,s1.extBut _ _ ne ho,hd⟩,hf,g,ne,low,_,.drawn ys p tp tl nt ot n (s1.extBut _ _ nt et) dt,?_⟩)⟩
   simpa [rawInt] using e1
theorem xy {vals:List Value}{it:Addr}{Q:Option Value->Shared->Prop}(hh:A.handled=none)(st:Bg w a es ep t lo vals it es.size s.heap)(hl:vals.length=es.size)
  (fin:∀h',(∀b o,b≠it->s.heap.get? b=some o->h'.get? b=some o)->Q none { s with heap:=h' }) :
  wpAny (model prog w) A (pyNext (.ref it)) Q E s:=by
 obtain⟨⟨o,ho,hd⟩,hf,g,ne,low,first,so,e⟩:=st
 have hT:s.TypeIs (.ref it) "set_iterator":=⟨_,e,rfl⟩
 refine wpAny_bind (wpAny_attempt (wpAny_callSpecial?_slot (name:=Str.ofString "__next__") hT dG (wpAny_call_entry dG hT iG ?_ (jE _))))
 unfold Builtin.«set_iterator.__next__» slotArgs setEntries setNext setsByText
 simp -iota only [List.isEmpty_nil,Bool.not_true,J9, ↓reduceIte,bind_assoc,Yn,bne_self_eq_false]
 dsimp only
 try simp -iota only [bind_assoc,J9, ↓reduceIte]
 refine wpAny_bind (wpAny_pure (wpAny_bind (wpAny_fieldsOf e rfl ?_)))
 dsimp only
 refine wpAny_bind (wpAny_setState_of ho hd hf (wpAny_bind (wpAny_pure ?_)))
 refine wpAny_ite ?_
 rw[if_neg (by simp)]
 cases so with
 | text b=>
  have b':w.params.followText "set-order" = true:=b
  refine wpAny_bind (wpAny_setState_of ho hd hf (wpAny_bind (wpAny_askSetting (wpAny_bind (wpAny_pure ?_)))))
  refine wpAny_bind (wpAny_ite ?_)
  rw[if_pos (show({ program:=(model prog w).prog,params:=(model prog w).w.params }:Setting).params.followText "set-order" = true from b')]
  refine wpAny_ite ?_
  rw[if_neg (by simp)]
  refine wpAny_bind (mO b ho hd hf (wpAny_pure ?_))
  have hx:((pickOrder (w.params.setOrder a ep) es)[(es.size:Int).toNat]?).map (fun e=>(e.2,(0:Int).toNat))=none:=by
   have:(pickOrder (w.params.setOrder a ep) es).size=es.size:=by rw[<-hl,Ja,Jv]
   rw[U8,Yb (by omega)];rfl
  rw[hx]
  refine wpAny_bind (wpAny_setField_rec e (by simp) fun h1 e1 s1 =>?_)
  wp_walk
  refine wpAny_raiseNew_none hh (wpAny_bind (wpAny_isInstance (T := "StopIteration") (b:=true) ⟨_,Js _ rfl,rfl⟩ isSubtype_stop (wpAny_pure (fin _ fun b o nb x =>?_))))
  exact Jc _ (Jc _ (s1.extBut b o nb x))
 | places b d l z c=>
  have b':w.params.followText "set-order" = false:=b
  have yN:t.place.size=es.size:=by
   have:=hf
   simp only[SetTable.fits,Uv,beq_iff_eq] at this
   exact this.1
  refine wpAny_bind (wpAny_setState_of ho hd hf (wpAny_bind (wpAny_askSetting (wpAny_bind (wpAny_pure ?_)))))
  refine wpAny_bind (wpAny_ite ?_)
  rw[if_neg (by show ¬(w.params.followText "set-order" = true);rw[b'];exact Ju)]
  refine wpAny_ite ?_
  rw[if_neg (by show ¬((!t.plain&&decide (es.size>1))=true);rw[d];exact Ju)]
  refine wpAny_bind ?_
  show wpAny _ _ (if (!t.led && !es.isEmpty)=true then unsupported "set:maker-not-led" else pure ()) _ _ _
  rw[l]
  refine wpAny_pure ?_
  have C7:es.size<=SetTable.below t.place ((z:Int)).toNat:=by
   rw[U8]
   have c2:=ff g.2 z
   refine Nat.not_lt.mp fun q =>?_
   have hs:SetTable.below t.place z<t.place.size:=by omega
   have:=c2.hi _ hs (Je _)
   have:=c.lo _ hs q
   omega
  refine wpAny_pure ?_
  dsimp only
  rw[Yb C7]
  dsimp only
  refine wpAny_bind (wpAny_setField_rec e (by simp) fun h1 e1 s1 =>?_)
  wp_walk
  refine wpAny_raiseNew_none hh (wpAny_bind (wpAny_isInstance (T := "StopIteration") (b:=true) ⟨_,Js _ rfl,rfl⟩ isSubtype_stop (wpAny_pure (fin _ fun b o nb x =>?_))))
  exact Jc _ (Jc _ (s1.extBut b o nb x))
 | drawn ys p tp tl nt ot n et dt=>
  dsimp only
  unfold seqItems?
  refine wpAny_bind (wpAny_bind (wpAny_load et ?_))
  rw[dt]
  refine wpAny_pure ?_
  dsimp only
  have Ih:ys.length=es.size:=by rw[p.length_eq,Yf]
  have oY:(ys.map fun(k:Nat)=>rawInt k).toArray[(es.size:Int).toNat]? = none:=by
   rw[U8,Yb (by rw[Jm,Ja,Ih];exact Je _)]
  rw[oY]
  refine wpAny_bind (wpAny_setField_rec e (by simp) fun h0 e0 s0=>wpAny_bind (wpAny_setField_rec (s:={ s with heap:=h0 }) e0 (by simp) fun h1 e1 s1 =>?_))
  wp_walk
  refine wpAny_raiseNew_none hh (wpAny_bind (wpAny_isInstance (T := "StopIteration") (b:=true) ⟨_,Js _ rfl,rfl⟩ isSubtype_stop (wpAny_pure (fin _ fun b o nb x =>?_))))
  exact Jc _ (Jc _ (s1.extBut b o nb (s0.extBut b o nb x)))
end
section
variable {prog:Program}{w:World}{a:Addr}{es:Array (Int×Value)}{ep:Nat}{t:SetTable}{lo:Nat}
theorem yt {A:Around}{it S:Addr}{vals:List Value}(hh:A.handled=none)(hl:vals.length=es.size)(n1:it≠S)(n2:a≠S)(hS:S<lo):
  BB prog w A it S (· = it) es.size (fun i v _=>vals[i]? = some v) (fun _ _=>True) (fun i h=>Bg w a es ep t lo vals it i h) where
 sfp:=fun z=>n1 z.symm
 item:=fun i s Q E hi st _ q=>yG st (v:=vals[i]) (Jd (by omega)) fun h' k' z' aE=>q _ h' s.toks (fun b o nb x=>k' b o nb x) aE (Jd (by omega)) fun _ _ _=>trivial
 stop:=fun s Q E st _ q=>xy hh st hl fun h' k'=>q h' s.toks fun b o nb x=>k' b o nb x
 keepS:=fun i h h' st k=>st.keep fun b o e hb=>k b o (fun z=>by
  rcases hb with rfl|hb
  ·exact n2 z
  ·subst z;exact absurd hS (Nat.not_lt.mpr hb)) e
 keepP:=fun j v h h' p k=>p
theorem AA:isSubtype (.type "set") (.type "set")=pure true:=by
 first|rfl|decide|(unfold isSubtype;rfl)
theorem rG {A:Around}{S:Addr}{o:Obj}(hh:A.in1.handled=none){s:Shared}{Z:Result->Shared->Prop}{res:Value}{c0:Nat}(ho:s.heap.get? a=some o)(hx:o.ExactSet)(hd:o.data = .set es ep t)(hf:t.fits es.size=true)(g:cO t)(l:C1 w=false->t.led=true)(hz:es.size<=sizeLine)
  (Ow:a≠S) (hS:s.heap.get? S=some { cls := .type "list",data := .seq #[] c0 })
  (fin:∀h' tk d acc c vals,Keeps s.heap h' (· = S)->vals.length=es.size->U2 vals (es.toList.map (·.2))->pP h' S es.size (fun i v _=>vals[i]? = some v) (fun _ _=>True) acc c->Z (.ok (.ret res)) { s with heap:=h',toks:=tk,drawn:=d }) :
  wpAny (model prog w) A.in1 (Builtin.List.listExtendWith (.ref S) (.ref a) res) (qS prog w A Z) (fun e s'=>Z (.error e) s') s:=by
 have hT:s.TypeIs (.ref a) "set":=⟨o,ho,hx.1⟩
 have yC:Builtin.List.listSameRef (.ref S) (.ref a)=false:=by simp[Builtin.List.listSameRef,Ne.symm Ow]
 have low:=Jj hS
 unfold Builtin.List.listExtendWith
 refine wpAny_bind (wpAny_typeOf hT ?_)
 simp only[yC,show(Value.type "set" == Value.type "list")=false by decide,show(Value.type "set" == Value.type "tuple")=false by decide,Bool.or_false,J9,if_false]
 refine wpAny_bind (w6 ho hx hd hf g l hz fun it h1 d vals hl hp hit k1 eQ =>?_)
 have Em:Shared.TypeIs { s with heap:=h1,drawn:=d } (.ref a) "set":=⟨o,k1 _ _ ho,hx.1⟩
 have hint:∀(Q:Bool->Shared->Prop),Q false { s with heap:=h1,drawn:=d } -> wpAny (model prog w) A.in1 (Builtin.List.listLengthHint (.ref a)) Q (fun e s'=>Z (.error e) s') { s with heap:=h1,drawn:=d }:=fun Q q=>by
  unfold Builtin.List.listLengthHint
  refine wpAny_bind (wpAny_specialOf Em F.slot_set_len.lookup ?_)
  refine wpAny_bind (wpAny_isInstance (T := "set") (b:=true) Em AA ?_)
  refine wpAny_ite_split (fun z=>absurd z (by decide)) fun _=>wpAny_ite_split (fun _ =>?_) fun z=>absurd (show _=true by decide +kernel) z
  exact wpAny_bind (wpAny_typeOf Em (wpAny_pure q))
 refine wpAny_bind (wpAny_holding (hint _ ?_))
 have Ed:=k1 _ _ hS
 have nS:it≠S:=fun z=>by subst z;exact absurd low (Nat.not_lt.mpr hit)
 have go:∀(h:Heap) (c tk:Nat),Keeps h1 h (· = S)->h.get? S=some { cls := .type "list",data := .seq #[] c } -> codeAny (model prog w) A (.builtin "list.extend.loop" ⟨[.ref S,.ref it,res],[]⟩) Z { s with heap:=h,toks:=tk,drawn:=d }:=fun h c tk k ob=>by
  have Fd:=yt (prog:=prog) (w:=w) (ep:=ep) (t:=t) (vals:=vals) (A:=A.in1) hh hl nS Ow low
  refine lh Fd hz (s:={ s with drawn:=d }) (g:=h1) (fun h' tk acc c k' G=>fin h' tk d acc c vals (fun b o nb q=>k' b o (fun z=>z.elim (fun z=>by subst z;exact absurd (Jj q) (Nat.not_lt.mpr hit)) nb) (k1 b o q)) hl hp G) es.size 0 h tk #[] c (by omega) (Fd.keepS _ _ _ eQ k) ⟨ob,rfl,.nil,fun j v e=>by simp at e⟩ fun b o nb q=>k b o (fun z=>nb (.inr z)) q
 refine wpAny_ite_split (fun _ =>?_) fun z=>absurd (show _=true by decide +kernel) z
 refine wpAny_bind (wpAny_rule (wpAny_bind ?_))
 have o1:=Ux (Obj.mapSeq (·.push Value.none)) Ed rfl
 have o2:=Ux (Obj.mapSeq (·.pop)) o1 rfl
 refine wpAny_bind (wpAny_updateSeq (s:={ s with heap:=h1,drawn:=d }) Ed rfl (wpAny_updateSeq (hz:=by seq_fits) o1 rfl (wpAny_pure ⟨plainId_quiet PySem.F.plain_extend_loop _,go _ _ _ (fun b o nb q =>?_) o2⟩)))
 exact(Uk _ _ (Ne.symm nb)).trans ((Uk _ _ (Ne.symm nb)).trans q)
theorem qK {A:Around}{E:Value->Shared->Prop}{o:Obj}(hh:A.handled=none){s:Shared}{Q:List Value->Shared->Prop}(ho:s.heap.get? a=some o)(hx:o.ExactSet)(hd:o.data = .set es ep t)(hf:t.fits es.size=true)(g:cO t)(l:C1 w=false->t.led=true)(hz:es.size<=sizeLine)
  (fin:∀h' tk d vals,s.heap.objs.size<=h'.objs.size->(∀b o,s.heap.get? b=some o->h'.get? b=some o)->U2 vals (es.toList.map (·.2))->Q vals { s with heap:=h',toks:=tk,drawn:=d }):wpAny (model prog w) A (collect (.ref a)) Q E s:=by
 unfold collect
 refine wpAny_bind (wpAny_runValue (codeAny_builtin PySem.F.entry_proto_collect ?_))
 rw[Around.under_plainId PySem.F.plain_proto_collect _]
 show wpAny _ A.in1 (newList [] >>= fun l=>again (.builtin "list.__iadd__" ⟨[l,.ref a],[]⟩)) _ _ s
 refine wpAny_bind (wpAny_newObj_type (wpAny_pure ⟨plainId_quiet PySem.F.plain_list_iadd _,codeAny_builtin PySem.F.entry_list_iadd ?_⟩))
 rw[Around.under_plainId PySem.F.plain_list_iadd _]
 have k0:∀b o,s.heap.get? b=some o->(s.heap.push { cls := .type "list",data := .seq ([]:List Value).toArray }).get? b=some o:=fun b o x=>Jc _ x
 refine rG (s:={ s with heap:=s.heap.push { cls := .type "list",data := .seq ([]:List Value).toArray } }) (A:=A) (res := .ref s.heap.objs.size)
  (Z:=fun(r:Result) s'=>match r with
   | .ok (.ret v)=>wpAny (model prog w) A (match v with
    | .ref a=>(load a >>= fun o=>match o.data with
     | .seq xs _=>pure xs.toList
     | _=>unsupported "internal:collect")
    | _=>unsupported "internal:collect") Q E s'
   | .ok _=>False
   | .error e=>E e s') hh (k0 _ _ ho) hx hd hf g l hz (Jw (Jj ho)) (Js _ rfl) fun h' tk d acc c vals k hl hp G =>?_
 refine wpAny_bind (wpAny_load G.ob (wpAny_pure ?_))
 have e:acc.toList=vals:=by
  refine List.ext_getElem? fun j =>?_
  by_cases hj:j<acc.size
  ·rw[Ua,J7 hj]
   exact(G.all j _ (J7 hj)).symm
  ·rw[Ua,Yb (by omega),List.getElem?_eq_none (by have:=G.sz;omega)]
 rw[e]
 exact fin h' tk d vals (Uy (Jj G.ob)) (fun b o x=>k b o (Jw (Jj x)) (k0 b o x)) hp
end
theorem jC {α:Type}[DecidableEq α]:∀{D ns:List α},D.Nodup->(∀k∈D,k∈ns)->ns.length<=D.length->U2 ns D
 | [],ns,_,_,hl=>by rw[J5 (Nat.le_zero.mp hl)]
 | k::D,ns,nd,sub,hl=>by
  obtain⟨nk,Bq⟩:=U1.mp nd
  have hk:=sub k Jq
  refine(List.perm_cons_erase hk).trans (U2.cons k (jC Bq (fun x hx =>?_) ?_))
  ·exact(List.mem_erase_of_ne (fun z=>nk (by rw[<-z];exact hx))).mpr (sub x (Jn _ hx))
  ·rw[List.length_erase_of_mem hk]
   rw[J0] at hl
   omega
theorem Inv.drawn {X:Cx}{pins:List (Addr×Obj)}{σ:St}{H:Hp}{s:Shared}(d:Drawn)(I:Inv X pins σ H s):Inv X pins σ H { s with drawn:=d }:=⟨I.ok,I.os,I.bare,I.base,I.loc,I.cell,I.free,I.freeC,I.pin,I.bb,I.len⟩
theorem zw:typeLookup (.type "list") "keys" = pure none:=by rw[typeLookup_type,builtinLookup_eq_fast];kernel_rfl
theorem Ge:typeLookup (.type "list") "__getattr__" = pure none:=by rw[typeLookup_type,builtinLookup_eq_fast];kernel_rfl
theorem vZ:isSubtype (.type "AttributeError") (.type "AttributeError")=pure true:=by first|rfl|(rw[isSubtype_type];kernel_rfl)
section
variable {prog:Program}{w:World}{A:Around}{E:Value->Shared->Prop}{h:Heap}{g:Array GenState}{d:Drawn}{t:Nat}{os:OsState}{a:Addr}{o:Obj}
theorem rO {tk:Tok}{Q:Fin->Shared->Prop}(hx:h.get? a=some o)(hc:o.cls = .type "list")(yP:o.dict=none){xs:Array Value}{n:Nat}(hd:o.data = .seq xs n)(hh:A.handled=none)
  (hq:∀e h' t',(∀b o,h.get? b=some o->h'.get? b=some o)->(∃oe,h'.get? e=some oe/\oe.cls = .type "AttributeError")->E (.ref e) ⟨h',g,d,t',os⟩) :
  wpAny (model prog w) A (Builtin.«object.__getattribute__» ⟨[.ref a,.str "keys" tk],[]⟩) Q E ⟨h,g,d,t,os⟩:=by
 have hT:(⟨h,g,d,t,os⟩:Shared).TypeIs (.ref a) "list":=⟨_,hx,hc⟩
 have f4:=zw
 repeat (any_goals (first|assumption|wp_step))
 rw[hd]
 dsimp only
 unfold instanceDict
 repeat (any_goals (first|assumption|wp_step))
 rw[yP,hc]
 repeat (any_goals (first|assumption|wp_step))
 have f9:=vZ
 unfold raiseAttrError noteAttr
 wp_walk
 rw[show(Manifest.find? "AttributeError").elim false (fun t=>t.mro.contains "StopIteration" || t.mro.contains "SystemExit")=false by decide +kernel,if_neg Ju]
 repeat (any_goals (first|assumption|wp_step))
 refine wpAny_raiseNew_none hh (hq _ _ _ (fun b o' x =>?_) ⟨_,Ux _ (Js _ rfl) rfl,rfl⟩)
 have x1:=Jc (h:=h) { cls:=Value.type "tuple",data:=Data.seq #[Value.str (Str.ofString (toString "'" ++ toString ((Manifest.find? "list").elim "list" fun x=>x.tpName)++toString "' object has no attribute '")++Str.ofString "keys" ++ Str.ofString "'") t] } x
 rw[Uk _ _ (Ym (Jj x1))]
 exact Jc _ x1
theorem ve {tk:Tok}{R:Result->Shared->Prop}(hx:h.get? a=some o)(hc:o.cls = .type "list")(yP:o.dict=none){xs:Array Value}{n:Nat}(hd:o.data = .seq xs n)(hh:A.handled=none)
  (hq:∀e h' t',(∀b o,h.get? b=some o->h'.get? b=some o)->(∃oe,h'.get? e=some oe/\oe.cls = .type "AttributeError")->R (.error (.ref e)) ⟨h',g,d,t',os⟩) :
  codeAny (model prog w) A (.call (.builtin "list.__getattribute__") ⟨[.ref a,.str "keys" tk],[]⟩) R ⟨h,g,d,t,os⟩:=
 codeAny_call_builtin F.slot_list_getattribute.plain F.entry_list_ga (F.slot_list_getattribute.check _ _ _ _ _ _ _ _ (show(⟨h,g,d,t,os⟩:Shared).TypeIs (.ref a) "list" from⟨_,hx,hc⟩) (F.args_list_getattribute_2 _ _) (rO hx hc yP hd hh hq))
theorem vI {Q:Option Value->Shared->Prop}(hx:h.get? a=some o)(hc:o.cls = .type "list")(yP:o.dict=none){xs:Array Value}{n:Nat}(hd:o.data = .seq xs n)(hh:A.handled=none)
  (hq:∀h' t',(∀b o,h.get? b=some o->h'.get? b=some o)->Q none ⟨h',g,d,t',os⟩):wpAny (model prog w) A (getAttr? (.ref a) "keys") Q E ⟨h,g,d,t,os⟩:=by
 have hT:(⟨h,g,d,t+1,os⟩:Shared).TypeIs (.ref a) "list":=⟨_,hx,hc⟩
 have f2:=F.slot_list_getattribute.lookup
 have f3:=F.slot_list_getattribute.bind (.ref a)
 have f4:=Ge
 unfold getAttr? getAttrBy?
 repeat (any_goals (first|assumption|wp_step))
 refine ve hx hc yP hd hh fun e h' t' k hoe =>?_
 have QP:Shared.TypeIs ⟨h',g,d,t',os⟩ (.ref e) "AttributeError":=hoe
 have f5:=vZ
 dsimp only
 unfold getattributeRaised
 refine wpAny_bind (wpAny_isInstance (T := "AttributeError") (b:=true) QP f5 ?_)
 rw[if_pos rfl]
 unfold hookBehind
 repeat (any_goals (first|assumption|wp_step))
 exact hq h' t' k
end
theorem fZ:entryFor table "dict.update.loop" = some Builtin.«dict.update.loop»:=entryFor_of_fast (by kernel_rfl)
theorem de:plainId "dict.update.loop" = true:=by decide +kernel
section
variable {prog:Program}{w:World}{K:Type}[DecidableEq K]{knd:KeyKind prog w K}{A:Around}{E:Value->Shared->Prop}
def rZ (knd:KeyKind prog w K)(h:Heap)(v:Value)(kv:K×Value):Prop:=∃(tp:Addr) (o:Obj) (n:Nat) (ku:Value),v = .ref tp/\h.get? tp=some o/\o.cls = .type "tuple" /\ o.data = .seq #[ku,kv.2] n/\knd.is kv.1 ku=true
theorem kH {s:Shared}{R:Result->Shared->Prop}{it l d:Addr}{items:Array Value}{kvs:List (K×Value)}{g:Heap}(hh:A.in1.handled=none)(hl:g.IsList l items)(hn:items.size=kvs.length)(hz:kvs.length<=100000)
  (hp:∀(j:Nat) v kv,items[j]? = some v->kvs[j]? = some kv->rZ knd g v kv) (lit:∀b o,g.get? b=some o->b≠it/\b≠d) (ne:d≠it)
  (fin:∀h tk,(∀b o,b≠d->b≠it->g.get? b=some o->h.get? b=some o)->h.DictOf knd d (merged [] kvs)->R (.ok (.ret .none)) { s with heap:=h,toks:=tk }) :
  ∀(k i:Nat) (h:Heap) (tk:Nat) (acc:List (K×Value)),i+k=kvs.length->acc.length<=i->merged acc (kvs.drop i)=merged [] kvs->(∀b o,b≠d->b≠it->g.get? b=some o->h.get? b=some o)->h.IsListIter it l i->h.DictOf knd d acc ->
   codeAny (model prog w) A (.builtin "dict.update.loop" ⟨[.ref d,.ref it,rawInt i,.none],[]⟩) R { s with heap:=h,toks:=tk }
 | 0,i,h,tk,acc,hk,ha,hm,kp,hi,hd=>by
  have e:i=kvs.length:=by omega
  subst e
  have CU:h.IsList l items:=by
   obtain⟨o,ho,r⟩:=hl
   exact⟨o,kp _ _ (lit _ _ ho).2 (lit _ _ ho).1 ho,r⟩
  refine codeAny_builtin fZ ?_
  rw[Around.under_plainId de _]
  unfold Builtin.«dict.update.loop»
  refine wpAny_bind (wpAny_pyNext_list_end (s:={ s with heap:=h,toks:=tk }) hh hi CU (by rw[Yb (by omega)]) fun h' eb =>?_)
  refine wpAny_bind (m:=Builtin.Dict.addKeywords d []) (wpAny_pure (wpAny_pure ?_))
  refine fin h' tk (fun b o nd ni x=>eb b o ni (kp b o nd ni x)) ?_
  rw[List.drop_length] at hm
  have hm:acc=merged [] kvs:=hm
  rw[<-hm]
  obtain⟨o,es,ep,ho,r⟩:=hd
  exact⟨o,es,ep,eb _ _ ne ho,r⟩
 | k+1,i,h,tk,acc,hk,ha,hm,kp,hi,hd=>by
  have cF:i<kvs.length:=by omega
  have CU:h.IsList l items:=by
   obtain⟨o,ho,r⟩:=hl
   exact⟨o,kp _ _ (lit _ _ ho).2 (lit _ _ ho).1 ho,r⟩
  have hit:items[i]? = some items[i]:=J7 (by omega)
  obtain⟨tp,o,n,ku,ev,ho,hc,hdat,hkey⟩:=hp i _ _ hit (Jd cF)
  refine codeAny_builtin fZ ?_
  rw[Around.under_plainId de _]
  unfold Builtin.«dict.update.loop»
  refine wpAny_bind (wpAny_pyNext_list_item (s:={ s with heap:=h,toks:=tk }) hi CU hit fun h1 hi1 Eb =>?_)
  rw[ev]
  have Ol:h1.get? tp=some o:=Eb.extBut _ _ (lit _ _ ho).1 (kp _ _ (lit _ _ ho).2 (lit _ _ ho).1 ho)
  have EX:h1.DictOf knd d acc:=by
   obtain⟨o,es,ep,ho,r⟩:=hd
   exact⟨o,es,ep,Eb.extBut _ _ ne ho,r⟩
  have hT:Shared.TypeIs { s with heap:=h1,toks:=tk } (.ref tp) "tuple":=⟨o,Ol,hc⟩
  refine wpAny_bind (wpAny_holding ?_)
  refine wpAny_bind (wpAny_tryCatch ?_)
  unfold Builtin.Dict.pairItems
  refine wpAny_bind (wpAny_typeOf hT ?_)
  rw[if_pos (by decide)]
  refine wpAny_bind (wpAny_seqItems (s:={ s with heap:=h1,toks:=tk }) Ol hdat (wpAny_pure ?_))
  refine wpAny_holding (wpAny_dictSet_pairs (s:={ s with heap:=h1,toks:=tk }) hkey EX (fun h2 hd2 sb2 =>?_) (Jr (show acc.length<=100000 by omega) (by decide)))
  refine wpAny_pure ⟨plainId_quiet de _,?_⟩
  have:=kH hh hl hn hz hp lit ne fin k (i+1) h2 (tk+1) (stored acc kvs[i].1 kvs[i].2) (by omega) ?_ ?_ (fun b o nd ni x=>sb2.extBut b o nd (Eb.extBut b o ni (kp b o nd ni x))) ?_ hd2
  ·exact this
  ·refine Jr ?_ (Wk ha)
   unfold stored
   split
   ·rw[Ja];exact Yw _
   ·rw[Jf];exact Je _
  ·rw[<-hm,Yy cF]
   rfl
  ·obtain⟨oi,e1,r⟩:=hi1
   exact⟨oi,sb2.extBut _ _ (Ne.symm ne) e1,r⟩
theorem sJ {s:Shared}{Q:Value->Shared->Prop}{l:Addr}{items:Array Value}{kvs:List (K×Value)}{ol:Obj}{n:Nat}(hh:A.handled=none)(ho:s.heap.get? l=some ol)(hc:ol.cls = .type "list")(yP:ol.dict=none)(hd:ol.data = .seq items n)(hn:items.size=kvs.length)(hz:kvs.length<=100000)
  (hp:∀(j:Nat) v kv,items[j]? = some v->kvs[j]? = some kv->rZ knd s.heap v kv)
  (fin:∀h tk,(∀b o,s.heap.get? b=some o->h.get? b=some o)->h.DictOf knd s.heap.objs.size (merged [] kvs)->Q (.ref s.heap.objs.size) { s with heap:=h,toks:=tk }) :
  wpAny (model prog w) A (call (.type "dict") [.ref l]) Q E s:=by
 refine callType_codes (Q₁:=fun obj s₁=>obj = .ref s.heap.objs.size/\s₁={ s with heap:=s.heap.push { cls := .type "dict",data := .dict #[] } }) F.kt_called_dict (F.kt_typeCall_dict_1 _) F.entry_dict_init (kt_code_dict_new _ ⟨rfl,rfl⟩) ?_
 rintro obj s1 ⟨rfl,rfl⟩
 have new:(s.heap.push { cls := .type "dict",data := .dict #[] }).DictOf knd s.heap.objs.size []:=Heap.DictOf.new s.heap
 have k0:∀b o,s.heap.get? b=some o->(s.heap.push { cls := .type "dict",data := .dict #[] }).get? b=some o:=fun b o x=>Jc _ x
 refine⟨new.typeIs,F.args_dict_init_2 _ _,?_⟩
 unfold Builtin.«dict.__init__» Builtin.Dict.selfAndRest
 refine wpAny_bind (wpAny_bind (wpAny_notOrdered_dict new.typeIs ?_))
 show wpAny _ _ (pure (s.heap.objs.size,[Value.ref l])) _ _ _
 refine wpAny_pure ?_
 show wpAny _ _ (Builtin.Dict.updateFrom "dict.__init__" s.heap.objs.size (.ref l) [] .none) _ _ _
 unfold Builtin.Dict.updateFrom
 have hT:Shared.TypeIs { s with heap:=s.heap.push { cls := .type "dict",data := .dict #[] } } (.ref l) "list":=⟨ol,k0 _ _ ho,hc⟩
 refine wpAny_bind (wpAny_typeOf hT ?_)
 rw[if_pos (by decide)]
 refine wpAny_bind (vI (h:=s.heap.push { cls := .type "dict",data := .dict #[] }) (k0 _ _ ho) hc yP hd hh fun h1 t1 k1 =>?_)
 rw[if_pos (by rfl)]
 have kk:∀b o,s.heap.get? b=some o->h1.get? b=some o:=fun b o x=>k1 b o (k0 b o x)
 refine wpAny_bind (wpAny_rule (wpAny_bind (wpAny_pyIter_list (l:=l) (items:=items) ⟨ol,kk _ _ ho,hc,n,hd⟩ ?_)))
 have hS:s.heap.objs.size<h1.objs.size:=by
  obtain⟨o,es,ep,e,_⟩:=new
  exact Jj (k1 _ _ e)
 refine wpAny_pure ⟨plainId_quiet de _,?_⟩
 have low:∀b o,s.heap.get? b=some o->b≠h1.objs.size/\b≠s.heap.objs.size:=fun b o x=>⟨Jw (Jj (kk b o x)),Jw (Jj x)⟩
 refine kH (s:=s) (knd:=knd) (A:=A.in1) (it:=h1.objs.size) (g:=s.heap) (kvs:=kvs) hh ⟨ol,ho,hc,n,hd⟩ hn hz hp low (Jw hS) (fun h tk k dd=>⟨rfl,fin h tk (fun b o x=>k b o (low b o x).2 (low b o x).1 x) dd⟩) kvs.length 0 _ _ [] (by omega) (Je _) rfl (fun b o nd ni x=>Jc _ (kk b o x)) ⟨_,Js _ rfl,rfl,rfl⟩ ?_
 obtain⟨o,es,ep,e,r⟩:=new
 exact⟨o,es,ep,Jc _ (k1 _ _ e),r⟩
end
section
variable {X:Cx}{pins:List (Addr×Obj)}{σ:St}{H:Hp}{s:Shared}
theorem vm (I:Inv X pins σ H s)(as:List Addr):∀{kvs:List (Key×V)},as.length=kvs.length->(∀(j:Nat) b kv,as[j]? = some b->kvs[j]? = some kv->fP X.K H b [kV kv.1,kv.2]) ->
  ∃vs,KV kvs vs/\∀(j:Nat) b kv,as[j]? = some b->vs[j]? = some kv->rZ (aR X.prog X.w) s.heap (.ref b) kv:=by
 induction as with
 | nil=>
  intro kvs hl _
  rw[J5 hl.symm]
  exact⟨[],.nil,fun j b kv h=>by simp at h⟩
 | cons a as ih=>
  intro kvs hl h
  cases kvs with
  | nil=>cases hl
  | cons p kvs=>
  obtain⟨vs,h1,h2⟩:=ih (kvs:=kvs) (by simpa using hl) fun j b kv e1 e2=>h (j+1) b kv e1 e2
  obtain⟨ay,r,⟨o,e1,e2,n,e3⟩,_⟩:=I.tuple (h 0 a p rfl rfl)
  obtain⟨ku,vu,rfl,r1,r2⟩:=r.two
  refine⟨(p.1,vu)::vs,.cons ⟨rfl,r2⟩ h1,fun j b kv e4 e5 =>?_⟩
  cases j with
  | zero=>
   cases e4;cases e5
   exact⟨a,o,n,ku,rfl,e1,e2,e3,iV r1⟩
  | succ j=>exact h2 j b kv e4 e5
theorem kF:∀{as:List Addr} {ay:List Value},Vals (as.map V.ref) ay->ay=as.map Value.ref
 | [],_,rv=>by cases rv;rfl
 | a::as,_,rv=>by
  obtain⟨v,r,rfl,rv1,rv2⟩:=rv.hd
  cases rv1
  rw[kF rv2];rfl
theorem EL (K:Jb)(hc:X.calm=true)(hK:X.K=K:=by rfl):cj X (.type "dict") (fun xs H Q=>∃(p:Addr) (as:List Addr) (kvs:List (Key×V)),xs=[.ref p]/\aK K H p (as.map V.ref)/\as.length=kvs.length/\kvs.length<=100000 /\
  (∀(j:Nat) b kv,as[j]? = some b->kvs[j]? = some kv->fP K H b [kV kv.1,kv.2])/\∀d H',dX H d (.dK (bA [] kvs)) H'->Q (.ref d) H'):=by
 subst hK
 intro pins s σ H xs us Q I r h
 obtain⟨p,as,kvs,rfl,hp,hl,hz,ht,q⟩:=h
 obtain⟨u,rfl,ru⟩:=vals1 r
 cases ru
 obtain⟨ay,rv,⟨o,n,e1,e2,e3,e4⟩,_⟩:=I.list hp
 obtain⟨vs,kv,pa⟩:=vm I _ hl ht
 have hits:=kF rv
 have kl:=kv.length
 refine sJ (knd:=aR X.prog X.w) (kvs:=vs) (I.ok.hd hc) e1 e2 e3 e4 (by rw[hits];simp;omega) (by omega) (fun j v kw h1 h2 =>?_) fun h1 tk k1 dd =>?_
 ·rw[hits] at h1
  simp only[List.getElem?_toArray,Jk] at h1
  cases e:as[j]? with
  | none=>rw[e] at h1;cases h1
  | some b=>rw[e] at h1;cases h1;exact pa j b kw e h2
 ·have ml:=cD kvs []
  have big:=I.big
  refine⟨.ref s.heap.objs.size,_,I.laid (a:=s.heap.objs.size) (o := .dK (bA [] kvs)) (t':=tk) k1 (Je _) ⟨Jr (show _<=100000 by simp at ml;omega) (by decide),?_,_,KV.merge kv .nil,dd⟩,rfl,q _ _ ⟨I.bb.fresh (Je _),rfl⟩⟩
  exact beq_eq_false_iff_ne.mpr (Ym big)
end
section
variable {X:Cx}
theorem zc:yH X "dict.update" (fun x vs H Q=>pW fun(d o:Addr) (kvs more:List (Key×V))=>x = .ref d/\vs=[.ref o]/\d≠o/\H d=some (.dK kvs)/\H o=some (.dK more)/\kvs.length+more.length<=sizeLine/\Q .non (upd H d (.dK (bA kvs more)))):=by
 intro pins s σ H x vs v us Q I rx rv h
 obtain⟨d,o,kvs,more,rfl,rfl,hdo,hd,ho,hl,q⟩:=h
 cases rx
 obtain⟨u,rfl,ru⟩:=vals1 rv
 cases ru
 obtain⟨z1,ns1,vs1,kv1,dd1⟩:=I.bb d _ hd
 obtain⟨z2,ns2,vs2,kv2,dd2⟩:=I.bb o _ ho
 have l1:=kv1.length
 have l2:=kv2.length
 refine call_meetsIn F.slot_dict_update dd1.typeIs F.entry_dict_update (F.args_dict_update_2 _ _) (meets_dict_update (aR X.prog X.w) d o hdo ns2) ⟨vs1,vs2,dd1,dd2,by omega,fun h' dd' _ hs =>?_⟩
 have ml:=cD more kvs
 have he:∃q,h'.get? d=some q:=let ⟨q,_,_,hq,_⟩:=dd'; ⟨q,hq⟩
 exact⟨.non,_,iC I (by rw[hd];exact True.intro) hs he (ox (by omega) ns1 (KV.merge kv2 kv1) dd'),rfl,q⟩
end
section
variable {prog:Program}{w:World}{K:Type}[DecidableEq K]{knd:PySem.KeyKind prog w K}
variable {A:Around}{R:Result->Shared->Prop}{I:Addr}{fp wr:List Addr}{G:Array GenState->Array GenState->Prop}{n:Nat}{P:Nat->Value->Prop}{St:Nat->Shared->Prop}
theorem l9 (W:WalksS prog w A.in1 I fp wr G n P St)(S:Addr)(hS:S∉fp)(ks:Nat->K)(hv:∀i v,P i v->knd.is (ks i) v=true/\v.scannable=true)(hb:n+1<scanBound):
  ∀(k i:Nat) (s:Shared),i+k=n->St i s->cg knd s.heap S (bP ks i)->(∀s',Moved (S::wr) G s s'->cg knd s'.heap S (bP ks n)->R (.ok (.ret .none)) s') ->
   codeAny (model prog w) A (.builtin "set.update.loop" ⟨[.ref S,.ref I],[]⟩) R s
 | 0,i,s,hk,st,hK,fin=>by
  have e:i=n:=by omega
  subst e
  refine codeAny_builtin F.entry_set_update_loop ?_
  rw[Around.under_plainId F.plain_set_update_loop _]
  refine wpAny_bind (m:=pyNext (.ref I)) (W.done s _ _ st fun s' mv =>?_)
  refine wpAny_pure (fin s' (mv.mono fun b hb=>Jn _ hb) (hK.at' fun o e=>mv.heap S o (fun z=>hS (W.sub _ z)) e))
 | k+1,i,s,hk,st,hK,fin=>by
  refine codeAny_builtin F.entry_set_update_loop ?_
  rw[Around.under_plainId F.plain_set_update_loop _]
  refine wpAny_bind (m:=pyNext (.ref I)) (W.item i s _ _ (by omega) st fun v s' pv aE mv =>?_)
  obtain⟨h1,h2⟩:=hv i v pv
  have Pb:cg knd s'.heap S (bP ks i):=hK.at' fun o e=>mv.heap S o (fun z=>hS (W.sub _ z)) e
  refine wpAny_bind (m:=holding [v] (setAdd S v)) (wpAny_holding ?_)
  unfold setAdd
  refine wpAny_holding (wpAny_bind (knd.pyHash (k:=ks i) h1 ?_))
  have room:(bP ks i).length+1<scanBound:=by have:=ic ks i;omega
  refine qX (s:={ s' with toks:=s'.toks+1 }) h1 h2 Pb room fun _ h' sb hN =>?_
  refine wpAny_pure ⟨plainId_quiet F.plain_set_update_loop _,?_⟩
  refine l9 W S hS ks hv hb k (i+1) _ (by omega) (W.frame _ s' _ _ aE (Yw _) fun b hb o e =>?_) hN fun s2 mv2 hK2 =>?_
  ·rw[sb.2 b (fun z:b=S=>hS (by rw[<-z];exact hb))];exact e
  ·refine fin s2 (Moved.trans W.gtrans ((mv.mono fun b hb=>Jn _ hb).then_heap (Yw _) fun b o nb e =>?_) mv2) hK2
   rw[sb.2 b (fun z:b=S=>nb (by rw[z];exact Jq))];exact e
end
section
variable {prog:Program}{w:World}{K:Type}[DecidableEq K]{knd:PySem.KeyKind prog w K}{A:Around}{E:Value->Shared->Prop}{s:Shared}
theorem pX (v:Value){Q₁:Value->Shared->Prop}(h:∀led,(w.params.followText "set-order" = false->led=true)->Q₁ (.ref s.heap.objs.size) { s with heap:=s.heap.push (cz led) }):
  codeAny (model prog w) A (.call (.builtin "set.__new__") ⟨[.type "set",v],[]⟩) (wants Q₁ E) s:=by
 refine codeAny_of_tree (show wpAny _ A.in1 (do checkBuiltinCall "set.__new__" ⟨[.type "set",v],[]⟩;again (.builtin "set.__new__" ⟨[.type "set",v],[]⟩)) _ _ s from ?_)
 refine wpAny_bind (wpAny_of_eq (F.newCall_set_1 v) (wpAny_pure ⟨plainId_quiet F.plain_set_new _,codeAny_builtin F.entry_set_new ?_⟩))
 rw[Around.under_plainId F.plain_set_new _]
 have dr:=sub_set_self
 obtain⟨hp,g,d,tk,os⟩:=s
 unfold Builtin.«set.__new__» Builtin.Frozenset.newClass
 dsimp only
 wp_walk
 refine wpAny_askSetting (wpAny_pure ?_)
 dsimp only
 simp only[newObj]
 exact wpAny_bind (wpAny_alloc (wpAny_pure (wpAny_pure (h _ fun z=>by show(!w.params.followText "set-order")=true;rw[z];rfl))))
theorem uP {l:Addr}{items:Array Value}{led:Bool}{R:Result->Shared->Prop}(xV:w.params.followText "set-order" = false->led=true)(hh:A.handled=none)(hl:s.heap.IsList l items)(ks:Nat->K)(hv:∀(i:Nat) v,items[i]? = some v->knd.is (ks i) v=true/\v.scannable=true)(hb:items.size+1<scanBound)
  (fin:∀(h':Heap) (tk:Nat),cg knd h' s.heap.objs.size (bP ks items.size)->(∀b o,s.heap.get? b=some o->h'.get? b=some o)->R (.ok (.ret .none)) { s with heap:=h',toks:=tk }) :
  codeAny (model prog w) A (.call (.builtin "set.__init__") ⟨[.ref s.heap.objs.size,.ref l],[]⟩) R { s with heap:=s.heap.push (cz led) }:=by
 have hS:(s.heap.push (cz led)).get? s.heap.objs.size=some (cz led):=Js _ rfl
 have hT:Shared.TypeIs { s with heap:=s.heap.push (cz led) } (.ref s.heap.objs.size) "set":=⟨_,hS,rfl⟩
 refine codeAny_call_builtin F.called_set.init.plain F.entry_set_init ?_
 refine check_set_init_1 hT ?_
 obtain⟨ol,g1,g2,nl,g3⟩:=hl
 obtain⟨c1,c2,c3,c4⟩:=ol
 have g2:c1 = .type "list":=g2
 have g3:c3 = .seq items nl:=g3
 subst g2 g3
 have Nv:Shared.TypeIs { s with heap:=s.heap.push (cz led) } (.ref l) "list":=⟨_,Jc _ g1,rfl⟩
 have gl:(s.heap.push (cz led)).get? l=some { cls := .type "list",dict:=c2,data := .seq items nl,slots:=c4 }:=Jc _ g1
 have NG:(s.heap.push (cz led)).IsList l items:=⟨_,gl,rfl,nl,rfl⟩
 have z1:=F.sub_list_set
 have z2:=F.sub_list_frozenset
 have z3:(Value.type "list" == Value.type "dict")=false:=by decide
 unfold Builtin.«set.__init__» noKeywords
 unfold Builtin.Frozenset.updateFrom
 generalize hPI:pyIter=PI
 wp_walk
 subst hPI
 refine wpAny_pyIter_list NG ?_
 refine wpAny_bind (wpAny_runValue ?_)
 have lS:l<s.heap.objs.size:=Jj g1
 have sz:(s.heap.push (cz led)).objs.size=s.heap.objs.size+1:=Wl ..
 have nI:l≠(s.heap.push (cz led)).objs.size:=by rw[sz];exact Jw (Wf lS)
 have nS:s.heap.objs.size∉[(s.heap.push (cz led)).objs.size,l]:=by
  rw[sz]
  intro z
  rcases Uh.mp z with z|z
  ·exact Jw (Nat.lt_succ_self _) z
  ·exact Ym lS (Jg.mp z)
 have W:=Walks.list (prog:=prog) (w:=w) (A:=A.in1.in1) (by simp[hh]) _ l nI items
 refine l9 W.toS s.heap.objs.size nS ks hv hb items.size 0 _ (by omega) ?st ?k0 ?fin
 case st=>exact⟨⟨_,Js _ rfl,rfl,rfl⟩,NG.push _⟩
 case k0=>exact rQ xV (Jc { cls := .type "list_iterator",data := .fields #[.ref l,.int 0 0] } hS)
 case fin=>
  intro s2 mv hK
  obtain⟨h2,g2,d2,t2,o2⟩:=s2
  have q1:g2=s.gens:=mv.gens
  have q2:d2=s.drawn:=mv.drawn
  have q3:o2=s.os:=mv.os
  subst q1 q2 q3
  refine wpAny_pure ?_
  refine wpAny_pure (fin h2 t2 hK fun b o e =>?_)
  have nb:=Jj e
  refine mv.heap b o (fun z =>?_) (Jc _ (Jc _ e))
  rcases Uh.mp z with z|z
  ·exact Jw nb z
  ·have z:=Jg.mp z
   rw[z,sz] at nb
   exact U7 _ (Wj nb)
theorem uM {l:Addr}{items:Array Value}{Q:Value->Shared->Prop}(hh:A.handled=none)(hl:s.heap.IsList l items)(ks:Nat->K)(hv:∀(i:Nat) v,items[i]? = some v->knd.is (ks i) v=true/\v.scannable=true)(hb:items.size+1<scanBound)
  (fin:∀(h':Heap) (tk:Nat),cg knd h' s.heap.objs.size (bP ks items.size)->(∀b o,s.heap.get? b=some o->h'.get? b=some o)->Q (.ref s.heap.objs.size) { s with heap:=h',toks:=tk }) :
  wpAny (model prog w) A (call (.type "set") [.ref l]) Q E s:=by
 have a1:=F.called_set.made
 have a2:=F.called_set.sub
 have a3:=F.called_set.notType
 have a4:=F.called_set.canCreate
 have a5:=F.typeCall_set_1 (.ref l)
 obtain⟨c,tl,a6⟩:=F.called_set.mro
 refine wpAny_call (codeAny_of_tree ?_)
 refine wpAny_pure ⟨Code.quiet_builtin _ (by decide +kernel),codeAny_builtin F.entry_type_call ?_⟩
 rw[Around.under_plain (weight_type_call_type "set" [.ref l] []) rfl]
 repeat (any_goals (first|assumption|wp_step))
 have mk:=pX (prog:=prog) (w:=w) (A:=A.in1) (s:=s) (.ref l) (E:=E) (Q₁:=fun obj s1=>∃led,(w.params.followText "set-order" = false->led=true)/\obj = .ref s.heap.objs.size/\s1={ s with heap:=s.heap.push (cz led) }) fun led xV=>⟨led,xV,rfl,rfl⟩
 refine codeAny_mono mk fun r s1 hr =>?_
 cases r with
 | error e=>exact hr
 | ok fl=>
  cases fl with
  | ret obj=>
   obtain⟨led,xV,rfl,rfl⟩:=hr
   have b1:Shared.TypeIs { s with heap:=s.heap.push (cz led) } (.ref s.heap.objs.size) "set":=⟨_,Js _ rfl,rfl⟩
   have b2:=F.called_set.init.lookup
   have b3:=F.called_set.init.bind (.ref s.heap.objs.size)
   repeat (any_goals (first|assumption|wp_step))
   refine uP xV (A:=A.in1) (by simp[hh]) hl ks hv hb fun h' tk hK old =>?_
   refine wpAny_pure ?_
   exact wpAny_pure (fin h' tk hK old)
  | _=>exact hr.elim
end
section
variable {X:Cx}
theorem vF (hc:X.calm=true):cj X (.type "set") (fun xs H Q=>∃(p:Addr) (zs:List Str),xs=[.ref p]/\aK X.K H p (zs.map V.str)/\zs.length<=4000/\∀(a:Addr) (H':Hp),dX H a (wa (zH X.prog X.w) a (lK zs)) H'->Q (.ref a) H'):=by
 intro pins s σ H xs us Q I r h
 obtain⟨p,zs,rfl,hq,hl,q⟩:=h
 obtain⟨u,rfl,ru⟩:=vals1 r
 cases ru
 obtain⟨ay,rv,pl,hz⟩:=I.list hq
 have hn:ay.length=zs.length:=by have:=rv.length;rw[Ja] at this;exact this.symm
 refine uM (knd:=strKind X.prog X.w) (I.ok.hd hc) pl.isList (fun i=>zs.getD i Str.empty) (fun i v e =>?_) (by rw[Jm,hn];unfold scanBound;omega) fun h' tk hK old =>?_
 ·obtain⟨y,h1,h2⟩:=gL rv e
  rw[Jk] at h1
  cases e1:zs[i]? with
  | none=>rw[e1] at h1;cases h1
  | some z=>
   rw[e1] at h1;cases h1
   obtain⟨t,rfl⟩:=h2
   have:zs.getD i Str.empty=z:=by simp[List.getD,e1]
   exact⟨by rw[this];exact strKind_is _ _ _ _,rfl⟩
 ·have en:ay.toArray.size=zs.length:=by rw[Jm,hn]
  rw[en] at hK
  exact⟨.ref _,_,I.laid (o:=wa (zH X.prog X.w) s.heap.objs.size (lK zs)) (t':=tk) old (Je _) (zg hK),rfl,q _ _ ⟨I.bb.fresh (Je _),rfl⟩⟩
theorem qE:∀{vs:List Value},(∀v∈vs,∃k t,v = .str k t)->∃ns,StrsAre vs ns/\∀k,k∈ns ↔ ∃t,Value.str k t∈vs
 | [],_=>⟨[],.nil,fun k=>⟨(fun h=>nomatch h),(fun⟨_,h⟩=>nomatch h)⟩⟩
 | v::vs,h=>by
  obtain⟨ns,h1,h2⟩:=qE (vs:=vs) fun u hu=>h u (Jn _ hu)
  obtain⟨k,t,rfl⟩:=h v Jq
  refine⟨k::ns,.cons k t h1,fun j=>⟨fun hj =>?_,fun⟨u,hu⟩=>?_⟩⟩
  ·rcases Uh.mp hj with rfl|hj
   ·exact⟨t,Jq⟩
   ·obtain⟨u,hu⟩:=(h2 j).mp hj
    exact⟨u,Jn _ hu⟩
  ·rcases Uh.mp hu with e|hu
   ·cases e;exact Jq
   ·exact Jn _ ((h2 j).mpr ⟨u,hu⟩)
theorem xW:∀{vs:List Value} {ns:List Str},StrsAre vs ns->vs.length=ns.length:=by
 intro vs ns h
 induction h with
 | nil=>rfl
 | cons _ _ _ ih=>rw[J0,J0,ih]
theorem qR (hc:X.calm=true):cj X (.builtin "sorted") (fun xs H Q=>∃(a:Addr) (D:List Str),xs=[.ref a]/\H a=some (wa (zH X.prog X.w) a D)/\D.Nodup/\D.length<64 /\
  ∀(ms:List Str) (q:Addr) (H':Hp),ms.Perm D->dX H q (.lst (ms.map V.str)) H'->Q (.ref q) H'):=by
 intro pins s σ H xs us Q I r h
 obtain⟨a,D,rfl,ha,nd,hl,q⟩:=h
 obtain⟨u,rfl,ru⟩:=vals1 r
 cases ru
 obtain⟨HK,o',es',ep',t',ho',hd',g',l'⟩:=(show bF X.prog X.w H s.heap a (wa (zH X.prog X.w) a D) from I.bb a _ ha).1
 obtain⟨o,es,ep,t,ho,ex,hd,el,mem,bnd,fit,len⟩:=id HK
 obtain⟨g,l⟩:cO t/\(X.w.params.followText "set-order" = false->t.led=true):=by
  rw[ho] at ho';cases ho'
  rw[hd] at hd';cases hd'
  exact⟨g',l'⟩
 refine Calls.call_function_entry kind_sorted plain_sorted entry_sorted (args_sorted1 _) ?_
 unfold Builtin.«sorted»
 refine wpAny_bind (m:=checkCount "sorted" 1 1 _) (wpAny_pure ?_)
 refine wpAny_bind (qK (A:=X.A.in1) (show X.A.in1.handled=none from I.ok.hd hc) ho ex hd fit g l (fits_of_scanBound bnd) fun h1 tk d vals hle k1 pm =>?_)
 have hv:∀v∈vals,∃k t,v = .str k t:=fun v hv=>by
  obtain⟨e,he,rfl⟩:=Ug.mp (pm.mem_iff.mp hv)
  obtain⟨⟨k,hk,_⟩,_⟩:=el e he
  obtain⟨t,ht⟩:=Value.isStrOf_shape hk
  exact⟨k,t,ht⟩
 obtain⟨ns,hI,Bn⟩:=qE hv
 have hlen:vals.length=D.length:=by rw[pm.length_eq,Ja,Jv,len]
 have Q1:=xW hI
 have pD:U2 ns D:=jC nd (fun k hk=>by
  obtain⟨e,he,h2⟩:=(mem k).mp (decide_eq_true hk)
  obtain⟨t,ht⟩:=Value.isStrOf_shape h2
  exact(Bn k).mpr ⟨t,by rw[<-ht];exact pm.mem_iff.mpr (Ug.mpr ⟨e,he,rfl⟩)⟩) (by omega)
 refine wpAny_bind (wpAny_newList ?_ (Jr (show vals.length<=64 by omega) (by decide)))
 have ob:(h1.push (seqObj "list" vals.toArray 0)).get? h1.objs.size=some (seqObj "list" vals.toArray 0):=Js _ rfl
 refine wpAny_bind (wpAny_holding (wpAny_call_entry slot_list_sort ⟨_,ob,rfl⟩ entry_list_sort (list_sort_treeK PyProof.Rows.strKind_oneLt ob hI.keysOf (fun v₁ v₂ rest e=>keyKind_strs (by rw[<-e];exact hI)) (by omega) fun aE hp hs=>⟨_,rfl,wpAny_pure ⟨_,rfl,?_⟩⟩) (args_list_sort _)))
 obtain⟨ms,a1,a2,a3⟩:=sorted_out_str hI hp hs
 generalize (arrOf aE).map (·.2)=out at a1 ⊢
 obtain⟨e,he⟩:=sortedHeap_at (out:=out) ob
 have hm:ms.length=D.length:=(a2.trans pD).length_eq
 have hr:=nL a1
 have kk:∀b o,s.heap.get? b=some o->(sortedHeap (h1.push (seqObj "list" vals.toArray 0)) h1.objs.size vals out).get? b=some o:=fun b CT x=>by
  have x1:=k1 b CT x
  rw[sortedHeap_old (Jw (Jj x1)) (by rw[size_push'];exact Wf (Jj x1)),Heap.get?_push_ne _ _ _ (Jw (Jj x1))]
  exact x1
 refine⟨.ref h1.objs.size,_,(I.laid (a:=h1.objs.size) (o := .lst (ms.map V.str)) (t':=tk) kk hle ⟨?_,out.toList,e,hr,?_⟩).drawn d,rfl,q ms _ _ (a2.trans pD) ⟨I.bb.fresh hle,rfl⟩⟩
 ·rw[Ja];exact Jr (show ms.length<=64 by omega) (by decide)
 ·simpa [seqObj] using he
theorem AU:yH X "list.remove" (fun x vs H Q=>∃(l:Addr) (xs:List Str) (y:Str),x = .ref l/\vs=[.str y]/\H l=some (.lst (xs.map V.str))/\y∈xs/\∀H',oG H l (.lst ((xs.erase y).map V.str)) H'->Q .non H'):=by
 intro pins s σ H x vs v us Q I rx rv h
 obtain⟨l,xs,y,rfl,rfl,hH,hy,q⟩:=h
 cases rx
 obtain⟨u,rfl,ru⟩:=vals1 rv
 obtain⟨t,rfl⟩:=ru
 obtain⟨z,ay,n,r,hl,e⟩:=I.m7 hH
 have hlen:=r.length
 rw[Ja] at hlen
 obtain⟨j,hj⟩:∃j,j=xs.idxOf y:=⟨_,rfl⟩
 have jl:j<xs.length:=by rw[hj];exact List.idxOf_lt_length_iff.mpr hy
 have jy:xs[j]=y:=by simp only[hj];exact List.getElem_idxOf (by rw[<-hj];exact jl)
 have jn:∀m (hm:m<xs.length),m<j->xs[m]≠y:=fun m hm hmj w=>by
  have:m<List.findIdx (· == y) xs:=by rw[hj] at hmj;exact hmj
  have:=List.not_of_lt_findIdx this
  rw[w] at this
  simp at this
 let ev:Value->Bool:=fun u=>match u with | .str a _=>a==y|_=>false
 have at':∀m (hm:m<ay.length),∃t',ay[m] = .str (xs[m]'(by omega)) t':=fun m hm=>by
  obtain⟨a,h1,h2⟩:=gL r (i:=m) (v:=ay[m]) (by simp[hm])
  rw[Jk,Jd (by omega)] at h1
  cases h1
  exact h2
 refine call_meets F.slot_list_remove ⟨_,e,rfl⟩ F.entry_list_remove (F.args_list_remove_2 _ _) (MeetsSeq.list_remove l ay.toArray n (.str y t) ev (fun w hw =>?_) j (by rw[Jm];omega) ?_ ?_ (by rw[Jm];omega)) ⟨e,?_⟩
 ·have hw:w∈ay:=by simpa using hw
  obtain⟨i,hi,ew⟩:=Yq.mp hw
  obtain⟨t',e'⟩:=at' i hi
  rw[<-ew,e']
  have z:=SeqRoads2.EqGives.str (xs[i]'(by omega)) y t' t
  rw[show((xs[i]'(by omega)).cps.toList==y.cps.toList)=((xs[i]'(by omega))==y) from by rw[Bool.eq_iff_iff,beq_iff_eq,beq_iff_eq,Array.toList_inj];exact⟨fun q=>by generalize xs[i]'(by omega)=x at q ⊢;cases x;cases y;simp_all,fun q=>by rw[q]⟩] at z
  exact z
 ·obtain⟨t',e'⟩:=at' j (by omega)
  show ev ay[j]=true
  rw[e']
  show(xs[j]==y)=true
  rw[jy];simp
 ·intro m hm hmj
  have uQ:m<ay.length:=by rw[Jm] at hm;exact hm
  obtain⟨t',e'⟩:=at' m uQ
  show ev ay[m]=false
  rw[e']
  show(xs[m]==y)=false
  simpa using jn m (by omega) hmj
 ·have ex:(xs.map V.str).eraseIdx j=(xs.erase y).map V.str:=by
   rw[List.erase_eq_eraseIdx_of_idxOf (i:=j) hj.symm,Yg,Yg,Jl,List.map_take,List.map_drop]
  refine⟨.non,_,I.yw (ys:=(xs.map V.str).eraseIdx j) (its':=ay.eraseIdx j) hH e ?_ (lz j r) (by rw[List.length_eraseIdx];split<;>omega),rfl,?_⟩
  ·simp[Array.eraseIdxIfInBounds,show j<ay.length by omega]
  ·exact q _ ⟨by rw[ex]⟩
end
def Fu (T:Addr)(H:Hp):Prop:=H T=some (.tbl #[])/\∀b,b≠T->H b=none∨cq fun o xs=>H b=some (.frz o (.lst xs))
section
variable {P:Program}{w:World}{K:Jb}{mg mb:Str->Option Value}{CX:uy}{k:Nat}{fa a T:Addr}{fd:FuncData}{x:Str}{sp:Sp}{s₁:Shared}{vs:List Value}{ns:List Int}
theorem vH (KX:K.In s₁.heap)(Bn:s₁.heap.Ns mainGlobals mg)(hb:s₁.heap.Ns builtinsNs mb)(PD:∀x:Str,x ≠ "__name__" -> mb x=bootBuiltins x)(LP:s₁.heap.NoLimit)(hg:s₁.gens = #[])
  (ha:s₁.heap.get? a=some { cls := .type "list",data := .seq vs.toArray }) (hi:IntsAre vs ns) (hl:ns.length<=sizeLine) (hr:dM k callerA) (hT:s₁.heap.get? T=some (tabObj #[])) (cT:isCodeTable s₁.heap T) (kT:K.lookup T=none)
  (vM:∃(bm:Addr) (ob:Obj),mg "__builtins__" = some (.ref bm)/\bm≠builtinsNs/\s₁.heap.get? bm=some ob/\ob.cls = .type "module" /\ ob.dict=some builtinsNs/\ob.data = .plain)
  (F:∀base:Heap,K.In base->base.Ns mainGlobals mg->base.BuiltinsAt mg T->bW P w K mg base CX k fa fd [x] sp) (G0:∀(s:Shared) (u:Value),BindsTo s fd ⟨[u],[]⟩ [(x,u)])
  (yU:∀H:Hp,H T=some (.tbl #[])->aK K H a (ns.map V.int)->sp [.ref a] H (fun v _=>v = .bl true) fun _ _ _=>False)
  (M6:∀H e s',CX [] H s₁ (fun _ _ _=>False) e s'->False) :
  codeAny (model P w) callerA (.call (.ref fa) ⟨[.ref a],[]⟩) (fun r s'=>r = .ok (.ret (.bool true))/\OldK s₁.heap s'.heap/\s'.os=s₁.os/\AllBare s'.gens) s₁:=by
 have rv:=vf hi
 have aT:a≠T:=fun z=>by rw[z,hT] at ha;cases ha
 obtain⟨H,hO,hS,bb,hA⟩:∃H:Hp,Fu T H/\aK K H a (ns.map V.int)/\fK P w H s₁.heap/\∀b,H b≠none->b=T∨(b=a/\K.lookup a=none):=by
  have Nh:∀{H:Hp},bF P w H s₁.heap T (.tbl #[]):=hT
  cases hk:K.lookup a with
  | some o=>
   have e:=KX a o hk
   rw[ha] at e
   cases e
   refine⟨upd (fun _=>none) T (.tbl #[]),⟨ax,fun b hb =>.inl (ak hb)⟩,.inr ⟨_,vs.toArray,_,hk,rfl,rfl,rfl,by rw[Jm,hi.length];exact hl,by simpa using rv⟩,fun b o e =>?_,fun b hb =>?_⟩
   ·by_cases hb:b=T
    ·rw[hb,ax] at e;cases e;rw[hb];exact Nh
    ·rw[ak hb] at e;cases e
   ·by_cases o9:b=T
    ·exact .inl o9
    ·exact absurd (ak o9) hb
  | none=>
   refine⟨upd (upd (fun _=>none) a (.frz { cls := .type "list",data := .seq vs.toArray } (.lst (ns.map V.int)))) T (.tbl #[]),⟨ax,fun b hb =>?_⟩,.inl (.inr ⟨_,by rw[ak aT];exact ax⟩),fun b o e =>?_,fun b hb =>?_⟩
   ·rw[ak hb]
    by_cases o9:b=a
    ·rw[o9,ax];exact .inr ⟨_,_,rfl⟩
    ·exact .inl (ak o9)
   ·by_cases hb:b=T
    ·rw[hb,ax] at e;cases e;rw[hb];exact Nh
    ·rw[ak hb] at e
     by_cases o9:b=a
     ·rw[o9,ax] at e;cases e;rw[o9]
      exact⟨ha,by rw[Ja];exact hl,vs,_,rv,ha⟩
     ·rw[ak o9] at e;cases e
   ·by_cases yD:b=T
    ·exact .inl yD
    ·rw[ak yD] at hb
     by_cases o9:b=a
     ·exact .inr ⟨o9,rfl⟩
     ·exact absurd (ak o9) hb
 have tell:∀{b:Addr} {o:Obj},s₁.heap.get? b=some o->(b≠T)->(b=a->K.lookup a≠none)->H b=none:=fun{b o} e h1 h2=>by
  cases q:H b with
  | none=>rfl
  | some u=>
   rcases hA b (by rw[q];exact fun z=>nomatch z) with z|⟨z,z'⟩
   ·exact absurd z h1
   ·exact absurd z' (h2 z)
 have HX:∀{b:Addr} {m:Str->Option Value},s₁.heap.Ns b m->(oJ s₁.heap H).Ns b m:=fun{b m} ⟨o,es,ep,e,d,r⟩=>by
  refine⟨o,es,ep,j9 e (tell e (fun z =>?_) fun z =>?_),d,r⟩
  ·rw[z,hT] at e;cases e;cases d
  ·rw[z,ha] at e;cases e;cases d
 have NZ:K.In (oJ s₁.heap H):=fun b o e=>j9 (KX b o e) (tell (KX b o e) (fun z=>by rw[z,kT] at e;cases e) fun z h=>by rw[z,h] at e;cases e)
 have hM:Mod K mg (oJ s₁.heap H):=⟨NZ,HX Bn,⟨mb,HX hb,PD⟩,let ⟨mc,h1,h2⟩:=LP; ⟨mc,HX h1,h2⟩⟩
 have Qv:(oJ s₁.heap H).BuiltinsAt mg T:=by
  obtain⟨bm,ob,b1,b2,b3,b4,b5,b6⟩:=vM
  have bT:bm≠T:=fun z=>by rw[z,hT] at b3;cases b3;cases b4
  have bG:bm≠mainGlobals:=fun z=>by
   obtain⟨o,es,ep,e,hd,_⟩:=Bn
   rw[z,e] at b3;cases b3;rw[hd] at b6;cases b6
  exact⟨bm,ob,b1,b2,bG,bT,j9 b3 (tell b3 bT fun z=>by rw[z,ha] at b3;cases b3;cases b6),b4,b5,b6⟩
 have e0:sG P w K mg (oJ s₁.heap H) callerA [] s₁ H:=⟨rfl,hM,fun b o e=>zN e,Yu (vn _ _),trivial,(fun b hb=>nomatch hb),bb,.of_eq hg⟩
 refine codeAny_mono ((F _ NZ (HX Bn) Qv).run callerA [] s₁ H ⟨[.ref a],[]⟩ [.ref a] [.ref a] _ _ hr e0 (G0 s₁ (.ref a)) (.cons rfl .nil) (yU H hO.1 hS)) fun r s' h =>?_
 cases r with
 | error e=>exact(M6 H e s' h).elim
 | ok fl=>
  cases fl with
  | next=>exact False.elim h
  | brk=>exact False.elim h
  | cont=>exact False.elim h
  | ret u=>
   obtain⟨v,H',os,bare,un,AM,r',q⟩:=h
   have q':v = .bl true:=q
   subst q'
   obtain rfl:u=Value.bool true:=r'
   have old:∀b o,s₁.heap.get? b=some o->b≠T->s'.heap.get? b=some o:=fun b o e hb=>by
    cases q:H b with
    | none=>exact un.keep b o e q (fun z=>nomatch z) (fun z=>nomatch z)
    | some u=>
     rcases hO.2 b hb with z|⟨ob,xs,z⟩
     ·rw[q] at z;cases z
     ·obtain⟨e1,_⟩:=bb b _ z
      obtain⟨e2,_⟩:=AM b _ (un.fj b ob _ z)
      rw[e] at e1;cases e1
      exact e2
   obtain⟨more,em⟩:=un.fR T _ hO.1
   have Ip:s'.heap.get? T=some (tabObj (#[]++more)):=AM T _ em
   refine⟨rfl,⟨fun b o e =>?_,fun b o e =>?_⟩,os,bare⟩
   ·by_cases hb:b=T
    ·subst hb
     rw[hT] at e;cases e
     exact .inr (.inl ⟨cT,rfl,#[],more,rfl,Ip⟩)
    ·exact .inl (old b o e hb)
   ·by_cases hb:b=T
    ·rw[hb];exact⟨_,Ip⟩
    ·exact⟨o,old b o e hb⟩
end
theorem dj.P8 {P:Program}{w:World}{K:Jb}{mg:Str->Option Value}{base:Heap}{x qual:Str}{st:Stmt}{f:Addr}{fd:FuncData}{N ps:List Str}{k:Nat}{sp:Sp}(F:dj K x qual st f fd)(S:aO N ps (aA st))(len:∀vs H Q E,sp vs H Q E->vs.length=ps.length)
  (kN:∀(A:Around) (outer:List Env) (s:Shared) (H:Hp) (vs:List V) (Q:VK) (E:XK),dM k (A.deeper (envOfC qual (aA st) s.heap.objs.size f fd.code))->sp vs H Q E ->
   ∃t,tH (oX fI P w K mg base N qual (aA st) f fd.code A outer s H E).Dy (dA st) t/\t { nx:=fun _ H'=>Q .non H',rt:=Q } (start N vs) H):bW P w K mg base fI (k+1) f fd ps sp:=by
 obtain⟨oc,od,kV,doc,pm,an,dZ,ct,AO,rfl,lk,pU⟩:=F.ex
 refine BA lk pU S len fun A outer s H vs Q E hr yU =>?_
 obtain⟨t,h,q⟩:=kN A outer s H vs Q E hr yU
 exact⟨t,h.Dy,q⟩
theorem wH {l:PySem.W.OpenLaw}{n k:Nat}{q:Program}{loose:List Str}{XP:(Str->Option Value)->Heap->Prop}{YP:World->Heap->Prop}{d:DefRec}{K:Params->Jb}{CX:World->uy}{sp:World->Sp}{x:Str}{T:Addr}
  (hn:l.most=some n) (CY:n<=sizeLine) (EB:d.params.defaults=[]) (hr:dM k callerA)
  (hY:∀(w:World) (h:Heap),YP w h->(K w.params).In h) (JP:∀(w:World) (h:Heap),YP w h->h.get? T=some (tabObj #[])) (hc:∀w:World,∃c o vs,(K w.params).lookup c=some o/\o.cls = .type "code" /\ o.data = .fields vs/\vs[11]? = some (.ref T)) (kT:∀w:World,(K w.params).lookup T=none)
  (F:∀(w:World) (mg:Str->Option Value) (fa:Addr) (h:Heap),(K w.params).In h->h.Ns mainGlobals mg->mg d.name=some (.ref fa) ->
   ∃fd:FuncData,(∀(s:Shared) (u:Value),BindsTo s fd ⟨[u],[]⟩ [(x,u)]) /\
    ∀base:Heap,(K w.params).In base->base.Ns mainGlobals mg->base.BuiltinsAt mg T->bW l.prog w (K w.params) mg base (CX w) k fa fd [x] (sp w))
  (yU:∀(w:World) (H:Hp) (a:Addr) (ns:List Int),ns.length<=n->H T=some (.tbl #[])->aK (K w.params) H a (ns.map V.int)->sp w [.ref a] H (fun v _=>v = .bl true) fun _ _ _=>False)
  (M6:∀(w:World) (H:Hp) (s:Shared) (e:Value) (s':Shared),CX w [] H s (fun _ _ _=>False) e s'->False) :
  PySem.W.WalkO q loose XP YP l.row.toRowW d [] (fun f vs=>PySem.call f vs):=by
 refine Att.pf hn EB fun w s₀ s₁ mg mb fa o pm cd doc a vs ns G Y ho hd pU hmg hobj hints hlen hg =>?_
 have KX:=hY w _ Y
 obtain⟨fd,hb,hF⟩:=F w mg fa _ KX G.T.g hmg
 obtain⟨c,oc,vc,h1,h2,h3,h4⟩:=hc w
 exact vH KX G.T.g G.T.b G.T.builtins G.T.nolimit hg hobj hints (Jr hlen CY) hr (JP w _ Y) ⟨c,oc,vc,KX _ _ h1,h2,h3,h4⟩ (kT w) G.T.bmain hF hb (fun H h1 h2=>yU w H a ns hlen h1 h2) fun H e s'=>M6 w H s₁ e s'
def uW (H:Hp)(q:Str)(c:Addr):Prop:=gO fun(o:Obj) (vs:Array Value) (t:Tok)=>H c=some (.frz o (.own 0))/\o.data = .fields vs/\vs[1]? = some (.str q t)
def Tab (H:Hp)(pos:Pos)(q:Str)(ps:Array Value):Prop:=ps = #[]∨∃c,ps = #[rawInt pos.line,rawInt pos.col,.ref c]/\uW H q c
def tm (H:Hp)(q:Str)(args:Arguments)(body:Expr)(scope:Scope)(f:Addr):Prop:=gO fun(pm:Value) (c:Addr) (ct:Value)=>H f=some (.frz (kla_obj (Str.ofString "<lambda>") q args body scope [] pm c ct) (.own 0))/\uW H q c
def JS (T:Addr)(pos:Pos)(q:Str)(args:Arguments)(body:Expr)(scope:Scope):TE:=fun _ H Q=>∃ps,H T=some (.tbl ps)/\Tab H pos q ps /\
 ∀(f:Addr) (rD:Array Value) (H':Hp),H f=none->H' T=some (.tbl rD)->Tab H' pos q rD->tm H' q args body scope f->(∀b o,b≠T->H b=some o->H' b=some o)->Q (.ref f) H'
theorem CS {X:Cx}{args:Arguments}{body:Expr}{scope:Scope}{pos:Pos}{c T:Addr}(hc:X.env.code = .ref c)(pU:CodeHd X.base c T)(C7:X.base.BuiltinsAt X.mg T)(hT:mainGlobals≠T)
  (hd:defaultsOf args X.env=([],[]):=by rfl) (MV:closureFor scope X.env=pure []:=by rfl):PE X (.Lambda args body scope pos) (JS T pos (X.env.qual++Str.ofString "<lambda>") args body scope):=by
 intro pins s σ H Q I h
 obtain⟨ps,yN,tab,q⟩:=h
 have Kl:s.heap.get? T=some (tabObj ps):=I.bb T _ yN
 have EZ:CodeHd s.heap c T:=by
  obtain⟨o,vs,file,tf,flags,tg,inF,text,tt,e,r⟩:=pU
  exact⟨o,vs,file,tf,flags,tg,inF,text,tt,I.bk _ _ e,r⟩
 have GB:s.heap.BuiltinsAt X.mg T:=by
  obtain⟨bm,o,h1,h2,h3,h4,e,r⟩:=C7
  exact⟨bm,o,h1,h2,h3,h4,I.bk _ _ e,r⟩
 have Bn:s.heap.Ns mainGlobals X.mg:=by
  obtain⟨o,es,ep,e,r⟩:=I.mod.glob
  exact⟨o,es,ep,I.bk _ _ e,r⟩
 refine kla_eval hd ?_
 rcases tab with rfl|⟨c',rfl,Dv⟩
 ·refine kla_makeFunction MV I.ok.glob Bn hc EZ Kl trivial rfl hT GB fun c' ctv h' tk ext hc1 hc2 cr Ip =>?_
  obtain⟨c0,oc,vs,t,ec,e1,e2,e3⟩:=cr
  cases ec
  have lt:T<s.heap.objs.size:=Jj Kl
  have nc:H c'=none:=I.bb.fresh hc1
  have zf:s.heap.objs.size<=h'.objs.size:=Uy (Ub hc1 hc2)
  have nf:H h'.objs.size=none:=I.bb.fresh zf
  have Tc:T≠c':=Jw (Jt lt hc1)
  have Tf:T≠h'.objs.size:=Jw (Jt lt zf)
  have cf:c'≠h'.objs.size:=Jw hc2
  obtain⟨fo,hfo⟩:∃fo,fo=kla_obj (Str.ofString "<lambda>") (X.env.qual++Str.ofString "<lambda>") args body scope [] ((X.mg (Str.ofString "__name__")).getD Value.none) c' ctv:=⟨_,rfl⟩
  rw[<-hfo]
  have g2:∀b o,b≠T->s.heap.get? b=some o->(h'.push fo).get? b=some o:=fun b o hb e=>Jc _ (ext b o hb e)
  have gT:=Jc fo Ip
  have gc:=Jc fo e1
  have gf:(h'.push fo).get? h'.objs.size=some fo:=Js _ (by rw[hfo];rfl)
  obtain⟨H',hH'⟩:∃H',H'=upd (upd (upd H T (.tbl (#[] ++ #[rawInt pos.line,rawInt pos.col,.ref c']))) c' (.frz oc (.own 0))) h'.objs.size (.frz fo (.own 0)):=⟨_,rfl⟩
  have HT:H' T=some (.tbl (#[] ++ #[rawInt pos.line,rawInt pos.col,.ref c'])):=by rw[hH',ak Tf,ak Tc];exact ax
  have Hc:H' c'=some (.frz oc (.own 0)):=by rw[hH',ak cf];exact ax
  have Hf:H' h'.objs.size=some (.frz fo (.own 0)):=by rw[hH'];exact ax
  have Ho:∀b,b≠T->b≠c'->b≠h'.objs.size->H' b=H b:=fun b h1 h2 h3=>by rw[hH',ak h3,ak h2,ak h1]
  have Hk:∀b o,b≠T->H b=some o->H' b=some o:=fun b o h1 e=>(Ho b h1 (fun z=>by rw[z,nc] at e;cases e) fun z=>by rw[z,nf] at e;cases e).trans e
  have nT:∀{b:Addr} {o:HO},H b=some o->(∀ps,o ≠ .tbl ps)->b≠T:=fun e h z=>by rw[z,yN] at e;cases e;exact h _ rfl
  have inv:Inv X pins σ H' { s with heap:=h'.push fo,toks:=tk }:=by
   refine I.un (h':=h'.push fo) (t':=tk) ⟨fun b o e n _ _=>g2 b o (fun z=>by rw[z,yN] at n;cases n) e,fun b o e n _ _=>⟨o.slots,g2 b o (fun z=>by rw[z,yN] at n;cases n) e⟩,fun b o e n _ =>?_,fun b o e _ =>?_,fun b xs e=>Hk b _ (nT e fun _ z=>nomatch z) e,fun b o u e=>Hk b _ (nT e fun _ z=>nomatch z) e,fun b ps e =>?_⟩ fun b o e =>?_
   ·have lb:=Jj e
    rw[Ho b (fun z=>by rw[z,yN] at n;cases n) (Jw (Jt lb hc1)) (Jw (Jt lb zf))]
    exact n
   ·by_cases hb:b=T
    ·rw[hb];exact⟨_,gT⟩
    ·exact⟨o,g2 b o hb e⟩
   ·by_cases hb:b=T
    ·rw[hb,yN] at e;cases e
     exact⟨_,hb▸HT⟩
    ·exact⟨#[],by rw[Hk b _ hb e];simp⟩
   ·by_cases h1:b=T
    ·rw[h1,HT] at e;cases e;rw[h1];exact gT
    by_cases h2:b=c'
    ·rw[h2,Hc] at e;cases e;rw[h2];exact⟨gc,_,gc⟩
    by_cases h3:b=h'.objs.size
    ·rw[h3,Hf] at e;cases e;rw[h3];exact⟨gf,_,gf⟩
    rw[Ho b h1 h2 h3] at e
    refine(I.bb b o e).lW (fun a u ha q=>g2 a u ?_ q) (fun a ha=>Hk a _ (nT ha fun _ z=>nomatch z) ha) fun a xs ha=>Hk a _ (nT ha fun _ z=>nomatch z) ha
    rcases ha with rfl|ha
    ·exact h1
    ·exact nT ha fun _ z=>nomatch z
  have cd:uW H' (X.env.qual++Str.ofString "<lambda>") c':=⟨oc,vs,t,Hc,e2,e3⟩
  exact⟨.ref h'.objs.size,H',inv,rfl,q _ _ H' nf HT (.inr ⟨c',rfl,cd⟩) ⟨_,c',ctv,hfo▸Hf,cd⟩ Hk⟩
 ·refine kla_makeFunctionHit MV I.ok.glob Bn hc EZ Kl ?_ (cv := .ref c') ?_ GB fun ctv h' tk k hz =>?_
  ·exact trivial
  ·exact codeAmong_snoc (pos:=pos) (c := .ref c') [] trivial rfl
  have nf:H h'.objs.size=none:=I.bb.fresh hz
  obtain⟨fo,hfo⟩:∃fo,fo=kla_obj (Str.ofString "<lambda>") (X.env.qual++Str.ofString "<lambda>") args body scope [] ((X.mg (Str.ofString "__name__")).getD Value.none) c' ctv:=⟨_,rfl⟩
  have gf:(h'.push fo).get? h'.objs.size=some fo:=Js _ (by rw[hfo];rfl)
  have Hk:∀b o,H b=some o->upd H h'.objs.size (.frz fo (.own 0)) b=some o:=fun b o e=>by rw[ak (aq e nf)];exact e
  have cd:uW (upd H h'.objs.size (.frz fo (.own 0))) (X.env.qual++Str.ofString "<lambda>") c':=by
   obtain⟨o,vs,t,h1,h2⟩:=Dv
   exact⟨o,vs,t,Hk _ _ h1,h2⟩
  have inv:=I.laid (a:=h'.objs.size) (o := .frz fo (.own 0)) (h':=h'.push fo) (t':=tk) (fun b u e=>Jc _ (k b u e)) hz ⟨gf,_,gf⟩
  rw[hfo] at inv
  exact⟨.ref h'.objs.size,_,inv,rfl,q _ _ _ nf (by rw[<-hfo];exact Hk _ _ yN) (.inr ⟨c',rfl,by rw[<-hfo];exact cd⟩) ⟨_,c',ctv,by rw[<-hfo];exact hfo▸ax,by rw[<-hfo];exact cd⟩ fun b o _ e=>by rw[<-hfo];exact Hk b o e⟩
theorem A0 {X:Cx}{k:Nat}{f:Addr}{q:Str}{args:Arguments}{body:Expr}{scope:Scope}{N ps:List Str}{t:TE}(S:aO N ps scope)(hp:ps.length=1)(hr:dM (k+3) X.A)
  (hb:∀(pm:Value) (c:Addr) (ct u:Value),bindArgs (kla_fn (Str.ofString "<lambda>") q args body scope [] pm (.ref c) ct) ⟨[u],[]⟩=pure (ps.zip [u]))
  (kN:∀(c:Addr) (A:Around) (outer:List Env) (s:Shared) (H:Hp),dM k (A.deeper (envOfC q scope s.heap.objs.size f (.ref c)))->PE (oX fI X.prog X.w X.K X.mg X.base N q scope f (.ref c) A outer s H E0).Dy body t) :
  wK X (.ref f) fun x H Q=>tm H q args body scope f/\t (start N [x]) H Q:=by
 intro pins s σ H x u Q I rx h
 obtain⟨⟨pm,c,ct,hf,o,vs,tk,hc,hd,hv⟩,h⟩:=h
 have e0:=I.Dj.in1.in1
 have gf:=(I.bb f _ hf).1
 have gc:=(I.bb c _ hc).1
 have JK:=hr.in1.in1
 have lim:s.heap.NoLimit:=e0.mod.nolimit.keeps fun b o e=>(e0.bs b o e).1
 have xD:∀y∈ps.zip [u],scope.names.lookup y.1=some .local∨(scope.names.lookup y.1=some .cell/\((cellsFrom (s.heap.objs.size+1) scope.names []).lookup y.1).isSome=true):=fun y hy=>by
  rcases S.par y.1 (Wb (a:=y.1) (b:=y.2) hy).1 with z|z
  ·exact .inl z
  ·exact .inr ⟨z,PySem.W.cellsFrom_some _ _ _ (.inl z)⟩
 refine wpAny_call (kla_callFunE JK.depth gf rfl S.co S.gen rfl ⟨c,o,vs,tk,rfl,gc,hd,hv⟩ ?_)
 rw[hb]
 refine wpAny_pure (wpAny_newFunctionEnv_cells S.kind xD fun env he s1 x1 =>?_)
 subst he
 refine⟨lim.keeps x1.toInCall.keep,kla_codeExpr ?_⟩
 have I1:Inv (oX fI X.prog X.w X.K X.mg X.base N q scope f (.ref c) X.A.in1.in1 X.stack s H E0) [] (start N [x]) H s1:=mQ S JK.hd e0 (by rw[hp];rfl) (.cons rx .nil) x1
 refine wpAny_mono (kN c X.A.in1.in1 X.stack s H (JK.deeper _) s1 (start N [x]) H Q (I1.lJ _) h) (fun v s' z =>?_) fun _ _ z=>z.elim
 refine ae.el z _ ?_
 rintro w H' J rv q
 exact⟨w,H',J.os,J.bare,J.base,J.bb,rv,q⟩
theorem oN {prog:Program}{w:World}{A:Around}{E:Value->Shared->Prop}{s:Shared}{T:String}{r d:Addr}{n:Nat}{P:Nat->Value->Prop}{OK:Heap->Prop}{Q:List Value->Shared->Prop}(src:KdlSrc prog w T r d n P OK)(hh:A.handled=none)
  (ok:∀h:Heap,(∀b o,s.heap.get? b=some o->h.get? b=some o)->OK h) (hr:r<s.heap.objs.size) (hd:d<s.heap.objs.size) (hz:n<=sizeLine)
  (fin:∀(h':Heap) (tk:Nat) (acc:Array Value),s.heap.objs.size<=h'.objs.size->(∀b o,s.heap.get? b=some o->h'.get? b=some o)->ItemsOf P acc n->Q acc.toList { s with heap:=h',toks:=tk }):wpAny (model prog w) A (collect (.ref r)) Q E s:=by
 unfold collect
 refine wpAny_bind (wpAny_runValue (codeAny_builtin PySem.F.entry_proto_collect ?_))
 rw[Around.under_plainId PySem.F.plain_proto_collect _]
 show wpAny _ A.in1 (newList [] >>= fun l=>again (.builtin "list.__iadd__" ⟨[l,.ref r],[]⟩)) _ _ s
 refine wpAny_bind (wpAny_newObj_type (wpAny_pure ⟨plainId_quiet PySem.F.plain_list_iadd _,codeAny_builtin PySem.F.entry_list_iadd ?_⟩))
 rw[Around.under_plainId PySem.F.plain_list_iadd _]
 have k0:∀b o,s.heap.get? b=some o->(s.heap.push { cls := .type "list",data := .seq ([]:List Value).toArray }).get? b=some o:=fun b o x=>Jc _ x
 refine kdl_extend (s:={ s with heap:=s.heap.push { cls := .type "list",data := .seq ([]:List Value).toArray } }) (A:=A) (res := .ref s.heap.objs.size)
  (R:=fun(r:Result) s'=>match r with
   | .ok (.ret v)=>wpAny (model prog w) A (match v with
    | .ref a=>(load a >>= fun o=>match o.data with
     | .seq xs _=>pure xs.toList
     | _=>unsupported "internal:collect")
    | _=>unsupported "internal:collect") Q E s'
   | .ok _=>False
   | .error e=>E e s') src hh (ok _ k0) s.heap.objs.size (Ym hr) (Ym hd) (c₀:=0) (Js _ rfl) (fun h' tk acc c k hS it =>?_) hz
 refine wpAny_bind (wpAny_load hS (wpAny_pure ?_))
 exact fin h' tk acc (Uy (Jj hS)) (fun b o x=>k b o (Jw (Jj x)) (k0 b o x)) it
section
variable {X:Cx}
theorem xt {r:Addr->V->Hp->VK->Prop}(hc:X.calm=true)(F:∀f:Addr,wK X (.ref f) (r f)):nu X "sorted" [Str.ofString "key"] (fun xs zs H Q=>pW fun(d f:Addr) (kvs:List (Key×V)) (ts:List Str)=>xs=[.ref d]/\zs=[.ref f]/\H d=some (.dK kvs)/\(kvs.map fun q=>kV q.1)=ts.map V.str /\
  (∀t∈ts,∀Hj,aj H Hj->r f (.str t) Hj fun v H'=>∃q,v = .ref q/\dX Hj q (.tup [.int t.length,.str t]) H') /\
  ∀(us:List Str) (q:Addr) (H':Hp),us.Perm ts->us.Pairwise (fun a b =>¬fO b a)->aj H H'->H q=none->H' q=some (.lst (us.map V.str))->Q (.ref q) H'):=by
 intro pins s σ H xs us zs ws Q I r1 r2 h
 obtain⟨d,f,kvs,ts,rfl,rfl,hd,hk,hr,q⟩:=h
 obtain⟨u,rfl,ru⟩:=vals1 r1
 obtain⟨z,rfl,rz⟩:=vals1 r2
 cases ru;cases rz
 obtain⟨z,ns,vs,kv,o,es,ep,e,rr⟩:=I.bb d _ hd
 have kl:=kv.length
 have tl:ts.length=kvs.length:=by have:=congrArg Yj hk;rw[Ja,Ja] at this;exact this.symm
 have ht:ts.length<=sizeLine:=by rw[tl];exact z
 have dl:=Jj e
 show wpAny _ _ (call (.builtin "sorted") [.ref d] [(Str.ofString "key",.ref f)]) _ _ _
 refine call_function_entry_kw kind_sorted plain_sorted entry_sorted (ksk_s1 _ _) ?_
 unfold Builtin.«sorted»
 refine wpAny_bind (m:=checkCount "sorted" 1 1 _) (wpAny_pure (wpAny_bind (oN (kdl_dict (knd:=aR X.prog X.w) (kvs:=vs) (ep:=ep) ns) (I.ok.hd hc) (fun h k=>⟨o,es,k _ _ e,rr⟩) dl dl (by omega) fun h' tk acc hsz keep it =>?_)))
 have rv:Vals (ts.map V.str) acc.toList:=hk▸ph kv (by rw[Jv];exact it.1) fun j v ej=>it.2 j v (by rw[<-Ua];exact ej)
 have hi:acc.toList.length<=sizeLine:=by rw[<-rv.length,Ja];exact ht
 refine wpAny_bind (wpAny_newList ?_ hi)
 have k2:(h'.push (seqObj "list" acc.toList.toArray 0)).get? h'.objs.size=some (seqObj "list" acc.toList.toArray 0):=Js _ rfl
 have BJ:∀b o,s.heap.get? b=some o->(h'.push (seqObj "list" acc.toList.toArray 0)).get? b=some o:=fun b o e=>Jc _ (keep b o e)
 show wpAny _ _ _ _ _ { s with heap:=Heap.push _ (seqObj "list" acc.toList.toArray 0),toks:=tk }
 refine wpAny_bind (wpAny_holding (wpAny_call_entry_kw slot_list_sort ⟨_,k2,rfl⟩ entry_list_sort ?_ (ksk_l1 _ _)))
 rw[ksk_t1]
 have d0:s.heap.get? h'.objs.size=none:=Heap.get?_none_of_le hsz
 have I':Inv X pins σ H { s with toks:=tk }:=I.tok tk
 refine kC (ts:=ts) (s0:={ s with toks:=tk }) I' (F f) hr ((Run.start I').kept BJ) d0 k2 (I.bb.fresh hsz) rv ht (fun b o e=>Jj (BJ b o e)) ?_
 intro vs out Hn sn e run same dn hD rv' up pw
 have lo:vs.length<=sizeLine:=by rw[up.length_eq];exact ht
 have new:=run.told (o := .lst (vs.map V.str)) d0 dn ⟨by rw[Ja];exact lo,out.toList,e,rv',by simpa [seqObj] using hD⟩
 refine⟨_,rfl,wpAny_pure ⟨_,rfl,.ref h'.objs.size,_,new.inv I',rfl,q vs _ _ up pw (fun a o z =>?_) (I.bb.fresh hsz) ax⟩⟩
 rw[ak (fun h=>by rw[h,I.bb.fresh hsz] at z;cases z)]
 exact same a o z
end
noncomputable def Ab:Expr->Arguments | .Lambda a _ _ _=>a|_=>{ posonlyargs:=[],args:=[],vararg:=none,kwonlyargs:=[],kw_defaults:=[],kwarg:=none,defaults:=[] }
noncomputable def zF:Expr->Expr | .Lambda _ b _ _=>b|e=>e
noncomputable def xN:Expr->Scope | .Lambda _ _ s _=>s|_=>{ kind := .function,names:=[],isGenerator:=false,isCoroutine:=false }
noncomputable def fD:Expr->Pos | .Lambda _ _ _ p=>p|_=>⟨0,0,0,0⟩
noncomputable def CZ (b:List Stmt):Expr:=match b.getLast? with
 | some (.Return (some (.Call _ _ [kw] _)) _)=>kw.value
 | _ =>.Name "x" ⟨0,0,0,0⟩
end L2
namespace Z
open PySem L2
noncomputable def top (i:Nat):Stmt:=PySem.Challenge.pw_oddlong_k64_shows_ranks.main.body.getD i (.Pass ⟨0,0,0,0⟩)
noncomputable abbrev i7:Nat:=2
noncomputable abbrev jm:Nat:=3
noncomputable abbrev jh:Nat:=4
noncomputable abbrev fU:Nat:=5
noncomputable abbrev eJ:Nat:=6
noncomputable abbrev gz:Nat:=7
noncomputable abbrev eW:Nat:=8
noncomputable abbrev eX:Nat:=10
noncomputable abbrev fW:Nat:=11
noncomputable abbrev nM:Nat:=12
noncomputable abbrev jg:Nat:=14
noncomputable abbrev hZ:Nat:=15
noncomputable abbrev eV:Nat:=16
noncomputable abbrev gi:Nat:=18
noncomputable abbrev gZ:Nat:=19
noncomputable abbrev gG:Nat:=20
noncomputable abbrev il:Nat:=21
noncomputable abbrev fV:Nat:=22
noncomputable abbrev g9:Nat:=23
noncomputable abbrev ij:Nat:=24
noncomputable abbrev cV:Nat:=25
noncomputable abbrev eU:Nat:=26
noncomputable abbrev jw:Nat:=27
noncomputable abbrev hJ:Nat:=28
noncomputable abbrev fx:Nat:=29
noncomputable abbrev iW:Nat:=30
theorem sizeOk {n:Nat}(h:n<=10000000):n<=sizeLine:=Jr h (by decide)
theorem d4 (l:List Str)(h:decide l.Nodup=true:=by decide +kernel):l.Nodup:=of_decide_eq_true h
end Z
namespace L2
set_option genSizeOf false
set_option genInjectivity false
inductive M3 {α0 α1 α2 α3 α4 α5 α6:Type}(P: α0 -> α1 -> α2 -> α3 -> α4 -> α5 -> α6->Prop):Prop|mk (x0: α0) (x1: α1) (x2: α2) (x3: α3) (x4: α4) (x5: α5) (x6: α6) (h:P x0 x1 x2 x3 x4 x5 x6):M3 P
instance HM {α0 α1 α2 α3 α4 α5 α6:Type} {P: α0 -> α1 -> α2 -> α3 -> α4 -> α5 -> α6->Prop} {F: α0 -> α1 -> α2 -> α3 -> α4 -> α5 -> α6->Prop->Prop} [i:∀x0 x1 x2 x3 x4 x5 x6,ae (P x0 x1 x2 x3 x4 x5 x6) (F x0 x1 x2 x3 x4 x5 x6)]:ae (M3 P) (fun G=>∀x0 x1 x2 x3 x4 x5 x6,F x0 x1 x2 x3 x4 x5 x6 G):=⟨fun⟨x0,x1,x2,x3,x4,x5,x6,h⟩ G k=>(i x0 x1 x2 x3 x4 x5 x6).el h G (k x0 x1 x2 x3 x4 x5 x6)⟩
set_option genSizeOf false
set_option genInjectivity false
end L2
namespace Z
open PySem L2
structure qF (H:Hp)(b c:Addr)(t:Int)(ns:List Int):Prop where
 d:H b=some (.dK [(.inr "cells",.ref c),(.inr "turn",.int t)])
 l:H c=some (.lst (ns.map V.int))
 ne:0<ns.length
 le:ns.length<=64
noncomputable def bM (H:Hp)(b c:Addr):Hp:=fun a=>if a=b∨a=c then none else H a
theorem bZ {H:Hp}{b c a:Addr}(h1:a≠b)(h2:a≠c):bM H b c a=H a:=if_neg (fun z=>z.elim h1 h2)
theorem eE {H:Hp}{b c a:Addr}{o:HO}(h:bM H b c a=some o):H a=some o/\a≠b/\a≠c:=by
 unfold bM at h
 split at h
 ·cases h
 ·rename_i n
  exact⟨h,fun z=>n (.inl z),fun z=>n (.inr z)⟩
theorem CG {H:Hp}{b c:Addr}:aj (bM H b c) H:=fun a o h=>(eE h).1
theorem qF.bc {H:Hp}{b c:Addr}{t:Int}{ns:List Int}(x:qF H b c t ns):b≠c:=BE x.d x.l (by intro z;cases z)
theorem qF.ya {H:Hp}{b c:Addr}{t:Int}{ns:List Int}(x:qF H b c t ns):dz H b (.str "turn") (some (.int t)):=dz.k (k:=Sum.inr "turn") x.d
theorem qF.jr {H:Hp}{b c:Addr}{t:Int}{ns:List Int}(x:qF H b c t ns):dz H b (.str "cells") (some (.ref c)):=dz.k (k:=Sum.inr "cells") x.d
theorem qF.wW {H:Hp}{b c:Addr}{t:Int}{ns:List Int}(x:qF H b c t ns)(t':Int):pI H b (.str "turn") (.int t') (upd H b (.dK [(.inr "cells",.ref c),(.inr "turn",.int t')])):=
 pI.k (k:=Sum.inr "turn") x.d (by show 2<sizeLine;decide)
theorem qF.turned {H:Hp}{b c:Addr}{t:Int}{ns:List Int}(x:qF H b c t ns)(t':Int):qF (upd H b (.dK [(.inr "cells",.ref c),(.inr "turn",.int t')])) b c t' ns:=
 ⟨ax,by rw[ak (Ne.symm x.bc)];exact x.l,x.ne,x.le⟩
theorem uv {H:Hp}{b c:Addr}{o:HO}:bM (upd H b o) b c=bM H b c:=by
 funext a;unfold bM;split
 ·rfl
 ·rename_i n;exact ak (fun z=>n (.inl z))
theorem vq {H:Hp}{b c:Addr}{o:HO}:bM (upd H c o) b c=bM H b c:=by
 funext a;unfold bM;split
 ·rfl
 ·rename_i n;exact ak (fun z=>n (.inr z))
def qW:Sp:=fun vs H Q _=>BM fun(b c:Addr) (t:Int) (ns:List Int) (many:Int)=>vs=[.ref b,.int many]/\qF H b c t ns/\0<=t/\t<100000000/\0<many/\many<1073741824 /\
 ∀(r:Int) (H':Hp) (Ao:List Int),0<=r->r<many->qF H' b c (t+1) Ao->aj (bM H b c) (bM H' b c)->Q (.int r) H'
theorem at_of {ns:List Int}{p:Int}(h0:0<=p)(h1:p<ns.length):∃v,rg (ns.map V.int) p=some (.int v)/\ns[p.toNat]? = some v:=by
 have hk:p.toNat<ns.length:=by omega
 have ek:p=((p.toNat:Nat):Int):=by omega
 have q:rg (ns.map V.int) ((p.toNat:Nat):Int)=some (.int ns[p.toNat]):=m9 (by rw[Jk,Jd hk]<;>rfl)
 rw[<-ek] at q
 exact⟨_,q,Jd hk⟩
theorem Dl {a j m:Int}(h0:0<m)(h:m<2^64):si (a%m) j:=by
 have h1:=Int.emod_nonneg a (b:=m) (by omega)
 have h2:=Int.emod_lt_of_pos a h0
 exact .inl ⟨by omega,by omega⟩
theorem Cc {n:Nat}{p:Int}(h0:0<=p)(h1:p<n):xT n p=some p.toNat:=by unfold xT;rw[if_pos h0,if_pos h1]
theorem lj {H H':Hp}{b c:Addr}(h:∀a o,a≠b->a≠c->H a=some o->H' a=some o):aj (bM H b c) (bM H' b c):=fun a o e=>by
 refine ae.el (eE e) _ ?_
 rintro e h1 h2
 rw[bZ h1 h2]
 exact h a o h1 h2 e
end Z
namespace L2
open PySem
def Gm (t:TG):Prop:=∀x σ H (Q Q':St->Hp->Prop),(∀a b,Q a b->Q' a b)->t x σ H Q->t x σ H Q'
def IJ (t:uz):Prop:=∀x σ H (Q Q':St->Hp->Prop),(∀a b,Q a b->Q' a b)->t x σ H Q->t x σ H Q'
theorem aF {i:Nat}:Gm (fM i):=fun _ _ _ _ _ h q=>h _ _ q
theorem bp:IJ DJ:=fun _ _ _ _ _ h q=>⟨q.1,h _ _ q.2⟩
theorem bz {t:TG}{u:uz}(a:Gm t)(b:IJ u):IJ (xJ t u):=fun _ _ _ _ _ h ⟨v,r,e,q⟩=>⟨v,r,e,a _ _ _ _ _ (fun _ _ z=>b _ _ _ _ _ h z) q⟩
theorem aB.get {K:Jb}{H:Hp}:∀{ds:List PyData} {vs:List V} {i:Nat} {d:PyData},aB K H ds vs->ds[i]? = some d->∃v,vs[i]? = some v/\Den K H d v
 | [],_,_,_,_,e=>by simp at e
 | d::ds,vs,i,d',h,e=>by
  unfold aB at h
  obtain⟨v,r,rfl,h1,h2⟩:=h
  cases i with
  | zero=>cases e;exact⟨v,rfl,h1⟩
  | succ i=>exact aB.get (i:=i) h2 e
theorem aB.len {K:Jb}{H:Hp}:∀{ds:List PyData} {vs:List V},aB K H ds vs->vs.length=ds.length
 | [],_,h=>by unfold aB at h;subst h;rfl
 | d::ds,vs,h=>by
  unfold aB at h
  obtain⟨v,r,rfl,h1,h2⟩:=h
  rw[J0,J0,aB.len h2]
theorem Den.pair {K:Jb}{H:Hp}{a b:Str}{v:V}(h:Den K H (.tuple [.str a,.str b]) v):∃p,v = .ref p/\fP K H p [.str a,.str b]:=by
 unfold Den at h
 obtain⟨p,vs,e,h1,h2⟩:=h
 unfold aB at h2
 obtain⟨v1,r1,rfl,d1,h2⟩:=h2
 unfold aB at h2
 obtain⟨v2,r2,rfl,d2,h2⟩:=h2
 unfold aB at h2
 subst h2
 unfold Den at d1 d2
 subst d1 d2
 exact⟨p,e,h1⟩
end L2
namespace Z
open PySem L2
theorem bj {H:Hp}{p:Addr}(h:H p=none)(o:HO):aj H (upd H p o):=fun b u q=>by rw[ak (aq q h)];exact q
end Z
namespace L2
open PySem
theorem hX {J:It}{g:TG}{tb:TS}{D:Ends}{σ:St}{H:Hp}(N:Nat)(Pv:Nat->St->Hp->Prop)(h0:Pv 0 σ H)
  (go:∀i σ H,i<N->Pv i σ H->J.go i H/\∀x H',J.yld i H x H'->g x σ H' fun σ2 H2=>tb { D with nx:=Pv (i+1),ct:=Pv (i+1),bk:=D.nx } σ2 H2)
  (stop:∀ σ H,Pv N σ H->J.stop N H/\D.nx σ H) :
  ∃W:Nat->Nat->St->Hp->Prop,(∃m,W 0 m σ H)/\∀i m σ H,W i m σ H ->
   (J.stop i H/\D.nx σ H)∨(J.go i H/\∃N:St->Hp->Prop,(∀ σ' H',N σ' H'->∃m',m'<m/\W (i+1) m' σ' H')/\∀x H',J.yld i H x H'->g x σ H' fun σ2 H2=>tb { D with nx:=N,ct:=N,bk:=D.nx } σ2 H2):=by
 refine⟨fun i m σ H=>m=N-i/\i<=N/\Pv i σ H,⟨N,by simp,Um _,h0⟩,?_⟩
 intro i m σ H
 refine ae.go ?_
 rintro rfl hi p
 by_cases cF:i<N
 ·obtain⟨g1,g2⟩:=go i σ H cF p
  exact .inr ⟨g1,Pv (i+1),fun σ' H' p'=>⟨N-(i+1),by omega,rfl,cF,p'⟩,g2⟩
 ·have e:i=N:=by omega
  subst e
  exact .inl (stop σ H p)
theorem cW {t u:TS}{D:Ends}{σ:St}{H:Hp}(Ex:St->Hp->Prop)(h:∀Nx:St->Hp->Prop,(∀ σ H,Ex σ H->Nx σ H)->t { D with nx:=Nx } σ H)(fin:∀ σ H,Ex σ H->u D σ H):we t u D σ H:=h (u D) fin
theorem oE {c:TT}{tb:TS}{D:Ends}{σ:St}{H:Hp}(Pv:Nat->St->Hp->Prop)(h0:∃m,Pv m σ H)
  (hs:∀m σ H,Pv m σ H->c σ H fun b H1=>if b=true then ∃N:St->Hp->Prop,(∀ σ' H',N σ' H'->∃m',m'<m/\Pv m' σ' H')/\tb { D with nx:=N,ct:=N,bk:=D.nx } σ H1 else D.nx σ H1):lr c tb D σ H:=⟨Pv,h0,hs⟩
theorem dc {te:TE}{g:TG}{u:TS}{D:Ends}{σ:St}{H:Hp}(Ex:V->Hp->Prop)(h:∀Qn:VK,(∀v H,Ex v H->Qn v H)->te σ H Qn)(fin:∀v H,Ex v H->g v σ H (u D)):we (gC te g) u D σ H:=h _ fin
theorem sM {te:TE}{g:TG}{D:Ends}{σ:St}{H:Hp}(Ex:V->Hp->Prop)(h:∀Qn:VK,(∀v H,Ex v H->Qn v H)->te σ H Qn)(fin:∀v H,Ex v H->g v σ H D.nx):gC te g D σ H:=h _ fin
theorem gn {i:Nat}{v:V}{σ:St}{H:Hp}{Q:St->Hp->Prop}(h:Q (σ.set i (some v)) H):fM i v σ H Q:=h
theorem bO {t u:TS}{D:Ends}{σ:St}{H:Hp}(h:∀D':Ends,(∀ σ H,u D σ H->D'.nx σ H)->(∀v H,D.rt v H->D'.rt v H)->t D' σ H):we t u D σ H:=h { D with nx:=u D } (fun _ _ h=>h) fun _ _ h=>h
end L2
namespace Z
open PySem L2
def Bx (H:Hp)(b c:Addr)(t:Int):Prop:=∃ns,qF H b c t ns
structure Step (b c:Addr)(H H':Hp)(t t' N:Int):Prop where
 le:t<=t'
 ub:t'<=t+N
 bx:Bx H' b c t'
 sm:aj (bM H b c) (bM H' b c)
theorem Step.refl {b c:Addr}{H:Hp}{t:Int}(h:Bx H b c t):Step b c H H t t 0:=⟨Yk _,by omega,h,aj.refl _⟩
theorem Step.trans {b c:Addr}{H H' H2:Hp}{t t' t2 N M:Int}(x:Step b c H H' t t' N)(y:Step b c H' H2 t' t2 M):Step b c H H2 t t2 (N+M):=
 ⟨by have:=x.le;have:=y.le;omega,by have:=x.ub;have:=y.ub;omega,y.bx,x.sm.trans y.sm⟩
theorem Step.more {b c:Addr}{H H':Hp}{t t' N M:Int}(x:Step b c H H' t t' N)(h:N<=M):Step b c H H' t t' M:=⟨x.le,by have:=x.ub;omega,x.bx,x.sm⟩
theorem Bx.aY {H:Hp}{b c p:Addr}{t:Int}(x:Bx H b c t)(h:H p=none):p≠b/\p≠c:=by
 obtain⟨ns,x⟩:=x
 exact⟨fun z=>(by rw[z,x.d] at h;cases h),fun z=>(by rw[z,x.l] at h;cases h)⟩
theorem Bx.upd {H:Hp}{b c p:Addr}{t:Int}{o:HO}(x:Bx H b c t)(h1:p≠b)(h2:p≠c):Bx (upd H p o) b c t:=by
 obtain⟨ns,x⟩:=x
 exact⟨ns,by rw[ak (Ne.symm h1)];exact x.d,by rw[ak (Ne.symm h2)];exact x.l,x.ne,x.le⟩
theorem Step.new {b c p:Addr}{H H':Hp}{t t' N:Int}(x:Step b c H H' t t' N)(h:H' p=none)(o:HO):Step b c H (upd H' p o) t t' N:=
 ⟨x.le,x.ub,x.bx.upd (x.bx.aY h).1 (x.bx.aY h).2,x.sm.trans (lj fun a u _ _ e=>by rw[ak (aq e h)];exact e)⟩
theorem Step.chg {b c p:Addr}{H H':Hp}{t t' N:Int}(x:Step b c H H' t t' N)(h:H p=none)(h1:p≠b)(h2:p≠c)(o:HO):Step b c H (upd H' p o) t t' N:=
 ⟨x.le,x.ub,x.bx.upd h1 h2,fun a u e=>by
  have q:=x.sm a u e
  refine ae.el (eE q) _ ?_
  rintro q n1 n2
  rw[bZ n1 n2,ak (fun z =>?_)]
  ·exact q
  ·rw[z] at e
   rw[(eE e).1] at h;cases h⟩
theorem Step.old {b c a:Addr}{H H':Hp}{t t' N:Int}{o:HO}(x:Step b c H H' t t' N)(h:H a=some o)(h1:a≠b)(h2:a≠c):H' a=some o:=
 (eE (x.sm a o (by rw[bZ h1 h2];exact h))).1
theorem Step.fresh {b c a:Addr}{H H':Hp}{t t' N:Int}(x:Step b c H H' t t' N)(hb:Bx H b c t)(h:H' a=none):H a=none:=by
 obtain⟨h1,h2⟩:=x.bx.aY h
 cases e:H a with
 | none=>rfl
 | some o=>rw[x.old e h1 h2] at h;cases h
theorem aj.bM {H H':Hp}{b c:Addr}(s:aj H H'):aj (bM H b c) (bM H' b c):=lj fun a o _ _ e=>s a o e
theorem Bx.same {H H':Hp}{b c:Addr}{t:Int}(x:Bx H b c t)(s:aj H H'):Bx H' b c t:=by
 obtain⟨ns,x⟩:=x
 exact⟨ns,s _ _ x.d,s _ _ x.l,x.ne,x.le⟩
theorem Step.same {b c:Addr}{H H':Hp}{t:Int}(x:Bx H b c t)(s:aj H H'):Step b c H H' t t 0:=⟨Yk _,by omega,x.same s,aj.bM s⟩
def qM:Sp:=fun vs H Q _=>pW fun(b c:Addr) (t many:Int)=>vs=[.ref b,.int many]/\Bx H b c t/\0<=t/\t<100000000/\0<many/\many<1073741824 /\
 ∀(r:Int) (H':Hp),0<=r->r<many->Step b c H H' t (t+1) 1->Q (.int r) H'
theorem Ar {vs:List V}{H:Hp}{Q:VK}{E:XK}(h:qM vs H Q E):qW vs H Q E:=by
 obtain⟨b,c,t,many,e,⟨ns,bx⟩,h1,h2,h3,h4,q⟩:=h
 exact⟨b,c,t,ns,many,e,bx,h1,h2,h3,h4,fun r H' Ao r0 r1 bx' sm=>q r H' r0 r1 ⟨by omega,by omega,⟨Ao,bx'⟩,sm⟩⟩
theorem BZ (vs:List V)(j:Nat):oP vs none (some (j:Int))=vs.take j:=by
 unfold oP
 rw[HT.xj,HT.AY,List.drop_zero,Nat.sub_zero]
 rcases Nat.le_total j vs.length with h|h
 ·rw[Yx h]
 ·rw[Nat.min_eq_right h,Yi (Je _),Yi h]
theorem Fn.imp {P:Program}{w:World}{K:Jb}{mg:Str->Option Value}{base:Heap}{k:Nat}{x:Str}{ps:List Str}{sp EN:Sp}(F:Fn P w K mg base k x ps sp)(h:∀vs H Q E,EN vs H Q E->sp vs H Q E):Fn P w K mg base k x ps EN:=by
 refine ae.el (F.ex) _ ?_
 rintro f fd a b c d
 exact⟨f,fd,a.imp h,b,c,d⟩
theorem Step.eg {b c p:Addr}{H H' H2:Hp}{t t' N:Int}{o:HO}(x:Step b c H H' t t' N)(n:dX H' p o H2):Step b c H H2 t t' N:=by rw[n.eq];exact x.new n.nn _
theorem Step.AG {b c p:Addr}{H H' H2:Hp}{t t' N:Int}{o:HO}(x:Step b c H H' t t' N)(n:oG H' p o H2)(h:H p=none)(h1:p≠b)(h2:p≠c):Step b c H H2 t t' N:=by rw[n.eq];exact x.chg h h1 h2 _
theorem qF.same {H H':Hp}{b c:Addr}{t:Int}{ns:List Int}(x:qF H b c t ns)(s:aj H H'):qF H' b c t ns:=⟨s _ _ x.d,s _ _ x.l,x.ne,x.le⟩
section
variable {P:Program}{w:World}{K:Jb}{mg:Str->Option Value}{base:Heap}{f:Addr}{fd:FuncData}
theorem cM:aO ["_law_state", "_law_many", "_law_turn", "_law_place", "_law_cell", "_law_digit", "_law_mixed"] ["_law_state", "_law_many"] (aA (top gZ)):=⟨rfl,rfl,rfl,by decide +kernel,rfl,by decide +kernel,by decide +kernel⟩
theorem zk (F:dj K "_law_take" "_law_take" (top gZ) f fd)(T:Nm mg):bW P w K mg base fI 1 f fd ["_law_state", "_law_many"] qW:=by
 refine F.ok cM (fun vs H Q E h =>?_) (fun dZ A outer s H vs Q E hr h =>?_)
 ·obtain⟨b,c,t,ns,many,rfl,_⟩:=h
  rfl
 obtain⟨b,c,t,ns,many,rfl,bx,t0,t1,m0,m1,q⟩:=h
 have hu:=jB hr
 refine⟨_,(ah (aN (i:=2) cM.nd rfl (Or.inl rfl) (aH b0 (dh hu (pv 0) bu (fun _ _=>rfl)) ao))
  (ah (om hu (pv 0) bu (pv 2) rfl)
  (ah (aN (i:=3) cM.nd rfl (Or.inl rfl) (aH ie (pv 2) (aw (dy K) rfl T.n_len (by rfl) (aa (dh hu (pv 0) bu (fun _ _=>rfl)) ag))))
  (ah (aN (i:=4) cM.nd rfl (Or.inl rfl) (cX (mF K) (dh hu (pv 0) bu (fun _ _=>rfl)) (pv 3) (fun _ _=>rfl)))
  (ah (bS (aI tW (pv 4) (aH rJ ao ao) (aL _)) (ah (ke (aw A5 rfl T.n_divmod (by rfl) (aa (pv 4) (aa (pv 1) ag))) (tupK K 2 rfl (aG (Ce (dh hu (pv 0) bu (fun _ _=>rfl)) (pv 3) set_list) (aG (av (i:=5) cM.nd rfl (Or.inl rfl)) cy))))
  (au (aJ (pv 5)))) aV)
  (ah (aN (i:=6) cM.nd rfl (Or.inl rfl) (aH ie (aH lV (aH b0 (aH b0 (aH ie (pv 4) ao) (aH lV (aH lV (pv 2) (pv 2)) ao)) ao) ao) ao))
  (ah (aN (i:=6) cM.nd rfl (Or.inl rfl) (aH ie (aH lV (pv 6) (pv 6)) ao))
  (au (aJ (aH ie (aH A6 (aH ie (aH lV (aH b0 (pv 6) (aH lV (pv 2) ao)) ao) ao) ao) (pv 1))))))))))),?_⟩
 refine⟨_,rfl,b,_,rfl,bx.ya,.inl ⟨_,_,rfl,rfl,?_⟩⟩
 refine⟨_,rfl,_,rfl,b,_,rfl,bx.wW (t+1),?_⟩
 have rV:=bx.turned (t+1)
 refine⟨_,rfl,_,rfl,b,_,rfl,rV.jr,_,_,rfl,.inl ⟨_,aK.of rV.l,rfl⟩,_,_,rfl,rfl,?_,?_⟩
 ·rw[Ja];have:=rV.ne;omega
 have hlen:(ns.map V.int).length=ns.length:=Ja _
 have G3:0<=(t+1)%((ns.map V.int).length:Int):=Int.emod_nonneg _ (by have:=rV.ne;omega)
 have hW:(t+1)%((ns.map V.int).length:Int)<ns.length:=by rw[hlen];exact Int.emod_lt_of_pos _ (by have:=rV.ne;omega)
 refine ae.el (at_of G3 hW) _ ?_
 rintro v hv NF
 refine⟨_,rfl,b,_,rfl,rV.jr,_,rfl,.inl ⟨c,_,_,_,rfl,rfl,aK.of rV.l,hv,?_⟩⟩
 refine⟨_,rfl,_,_,rfl,rfl,⟨by decide,by decide,by decide⟩,_,_,rfl,rfl,_,rfl,?_⟩
 refine fe (fun _ =>?_) (fun _ =>?_)
 ·refine⟨_,rfl,_,rfl,v,many,rfl,⟨m0,by omega⟩,fun pt H2 n2 =>?_⟩
  obtain⟨hpb,hpc⟩:pt≠b/\pt≠c:=⟨fun z=>(by have:=n2.nn;rw[z,rV.d] at this;cases this),fun z=>(by have:=n2.nn;rw[z,rV.l] at this;cases this)⟩
  have vQ:=rV.same n2.same
  refine⟨pt,_,rfl,fP.of n2.at,rfl,_,_,rfl,?_⟩
  refine⟨_,rfl,b,_,rfl,vQ.jr,_,rfl,c,_,_,_,rfl,rfl,vQ.l,Cc G3 (by simpa only [hlen] using hW),?_⟩
  refine⟨_,_,rfl,rfl,_,rfl,?_⟩
  refine q (v%many) _ (ns.set ((t+1)%((ns.map V.int).length:Int)).toNat (v / many)) (Int.emod_nonneg _ (by omega)) (Int.emod_lt_of_pos _ m0) ⟨?_,?_,?_,?_⟩ ?_
  ·rw[ak vQ.bc];exact vQ.d
  ·rw[ax,List.map_set]
  ·rw[List.length_set];exact rV.ne
  ·rw[List.length_set];exact rV.le
  ·rw[vq]
   refine lj fun a o h1 h2 e =>?_
   rw[n2.ne (fun z =>?_),ak h1]
   ·exact e
   ·have z2:=n2.nn
    rw[ak hpb,<-z,e] at z2
    cases z2
 ·refine⟨_,rfl,_,_,rfl,rfl,(by dsimp only;decide),_,rfl,_,rfl,.inl ⟨_,_,rfl,rfl,.inl ⟨by omega,by omega⟩,.inl ⟨_,_,rfl,rfl,.inr ⟨by decide,by decide⟩,.inl ⟨_,_,rfl,rfl,.inl ⟨_,_,rfl,rfl,.inl ⟨_,_,rfl,rfl,.inr ⟨by decide,by decide⟩,_,_,rfl,rfl,(by dsimp only;decide),?_⟩⟩⟩⟩⟩⟩
  have cm:∀(x y p:Int),0<p->p<2^64->si (x%p) y:=fun x y p h0 h1=>Dl h0 h1
  refine⟨_,rfl,_,rfl,.inl ⟨_,_,rfl,rfl,cm _ _ _ (by decide) (by decide),?_⟩⟩
  refine⟨_,_,rfl,rfl,(by dsimp only;decide),?_⟩
  refine⟨_,rfl,_,rfl,.inl ⟨_,_,rfl,rfl,.inl ⟨by omega,by omega⟩,.inl ⟨_,_,rfl,rfl,.inl ⟨_,_,rfl,rfl,.inr ⟨by decide,by decide⟩,_,_,rfl,rfl,(by dsimp only;decide),_,_,rfl,rfl,⟨by decide,by decide⟩,_,rfl,_,_,rfl,rfl,m0,?_⟩⟩⟩⟩
  exact q _ _ ns (Int.emod_nonneg _ (by omega)) (Int.emod_lt_of_pos _ m0) rV (by rw[uv];exact aj.refl _)
end
def iB (x:Str):Prop:=∀c∈x.cps.toList,c=48∨c=49
theorem kg (g:Str):∀(parts:List Str) (acc:Array Nat),(parts.foldl (fun acc p=>acc++g.cps++p.cps) acc).toList=acc.toList++parts.flatMap (fun p=>g.cps.toList++p.cps.toList)
 | [],acc=>by simp
 | p::r,acc=>by rw[List.foldl_cons,kg g r];simp
theorem d8 (xs:List Str):(Txt.join "" xs).cps.toList=xs.flatMap (fun p=>p.cps.toList):=by
 cases xs with
 | nil=>rfl
 | cons x r=>
  show((r.foldl (fun acc p=>acc++(Str.ofString "").cps++p.cps) x.cps)).toList=_
  rw[kg]
  have e:(Str.ofString "").cps.toList=[]:=rfl
  simp[e]
theorem mG:∀{xs:List Str},(∀x∈xs,∃ch:Nat,x=⟨#[ch]⟩/\(ch=48∨ch=49))->(xs.flatMap (fun p=>p.cps.toList)).length=xs.length/\(∀c∈xs.flatMap (fun p=>p.cps.toList),c=48∨c=49)/\(xs.map (·.length)).sum=xs.length
 | [],_=>⟨rfl,fun _ h=>by simp at h,rfl⟩
 | x::r,h=>by
  refine ae.el (h x Jq) _ ?_
  rintro ch rfl hc
  obtain⟨h1,h2,h3⟩:=mG fun y hy=>h y (Jn _ hy)
  refine⟨by simp at h1 ⊢;omega,fun c hm =>?_,?_⟩
  ·rw[List.flatMap_cons] at hm
   rcases Jh.mp hm with q|q
   ·have:c=ch:=by simpa using q
    rw[this];exact hc
   ·exact h2 c q
  ·rw[Uj,List.sum_cons,h3]
   show 1+_=_
   simp;omega
noncomputable abbrev MD:Str := "abcdefghijklmnopqrstuvwxyz"
theorem wU:MD.cps.toList=(Uu 26).map (97 + ·):=by decide +kernel
theorem wQ {r:Int}(h0:0<=r)(h1:r<26):rg MD.cps.toList r=some (97+r.toNat):=by
 refine e9 h0 ?_
 rw[wU,Jk,List.getElem?_range (by omega)]
 rfl
theorem bh (x y:Str):(x++y).cps.toList=x.cps.toList++y.cps.toList:=by
 show(x.cps++y.cps).toList=_
 simp
theorem str_len (x:Str):x.length=x.cps.toList.length:=by simp[Str.length]
theorem cL (x y:Str):(x++y).length=x.length+y.length:=by rw[str_len,bh,Jf,<-str_len,<-str_len]
theorem len_one (ch:Nat):(⟨#[ch]⟩:Str).length=1:=rfl
def Sh (n:Nat)(d:PyData):Prop:=d.canLay0=true/\d.depth<=n
theorem Sh.all {n:Nat}:∀{ds:List PyData},(∀d∈ds,Sh n d)->PyData.canLayAll0 ds=true/\PyData.depthAll ds<=n
 | [],_=>⟨by simp[PyData.canLayAll0],by simp[PyData.depthAll]⟩
 | d::ds,h=>by
  obtain⟨h1,h2⟩:=h d Jq
  obtain⟨h3,h4⟩:=Sh.all fun e he=>h e (Jn _ he)
  exact⟨by simp[PyData.canLayAll0,h1,h3],by simp only[PyData.depthAll];omega⟩
theorem Sh.list {n:Nat}{ds:List PyData}(h:∀d∈ds,Sh n d):Sh (n+1) (.list ds):=by
 obtain⟨h1,h2⟩:=Sh.all h
 exact⟨by simpa [PyData.canLay0] using h1,by simp only[PyData.depth];omega⟩
theorem Sh.shaped {n:Nat}{d:PyData}(h:Sh n d)(hn:n<=64):SeqAt.shaped d=true:=by
 unfold SeqAt.shaped
 rw[h.1,decide_eq_true (Jr h.2 hn)]
 rfl
theorem Sh.str {n:Nat}{x:Str}(h:PyData.canLay0 (.str x)=true):Sh n (.str x):=⟨h,by simp[PyData.depth]⟩
theorem Sh.int {n:Nat}{i:Int}:Sh n (.int i):=⟨by simp[PyData.canLay0],by simp[PyData.depth]⟩
theorem iI {x:Str}(h:∀ch∈x.cps.toList,ch<128):PyData.canLay0 (.str x)=true:=by
 simp only[PyData.canLay0,PyData.strOk]
 rw[<-Array.all_toList,Yh]
 intro ch hc
 have:=h ch hc
 exact decide_eq_true (by omega)
theorem Den.strs {K:Jb}{H:Hp}:∀(xs:List Str),aB K H (xs.map PyData.str) (xs.map V.str)
 | []=>by unfold aB;rfl
 | x::xs=>by
  rw[Uj]
  unfold aB
  exact⟨_,_,rfl,by unfold Den;rfl,Den.strs xs⟩
theorem Den.list {K:Jb}{H:Hp}{l:Addr}{ds:List PyData}{vs:List V}(h:aK K H l vs)(hd:aB K H ds vs):Den K H (.list ds) (.ref l):=by
 unfold Den
 exact⟨l,vs,rfl,h,hd⟩
theorem mS {n:Nat}:∀{ds:List PyData} {d:PyData},PyData.weightAll ds<=n->d∈ds->d.weight<=n
 | [],_,_,h=>nomatch h
 | e::ds,d,hn,h=>by
  simp only[PyData.weightAll] at hn
  rcases Uh.mp h with rfl|h
  ·omega
  ·exact mS (by omega) h
theorem aB.of_get {K:Jb}{H:Hp}:∀{ds:List PyData} {vs:List V},ds.length=vs.length->(∀(j:Nat) d v,ds[j]? = some d->vs[j]? = some v->Den K H d v)->aB K H ds vs
 | [],[],_,_=>by unfold aB;rfl
 | [],_::_,h,_=>by simp at h
 | _::_,[],h,_=>by simp at h
 | d::ds,v::vs,h,g=>by
  unfold aB
  exact⟨v,vs,rfl,g 0 d v rfl rfl,aB.of_get (by simpa using h) fun j d' v' h1 h2=>g (j+1) d' v' h1 h2⟩
theorem Den.pairOf {K:Jb}{H:Hp}{a:Addr}{x y:Str}(h:H a=some (.tup [.str x,.str y])):Den K H (.tuple [.str x,.str y]) (.ref a):=by
 unfold Den
 refine⟨a,_,rfl,fP.of h,?_⟩
 unfold aB
 refine⟨_,_,rfl,by unfold Den;rfl,?_⟩
 unfold aB
 refine⟨_,_,rfl,by unfold Den;rfl,?_⟩
 unfold aB
 rfl
def yd (K:Jb)(H:Hp)(bk:List (Str×Str))(v:V):Prop:=cq fun(l:Addr) (vs:List V)=>v = .ref l/\H l=some (.lst vs)/\aB K H (bk.map fun q =>.tuple [.str q.1,.str q.2]) vs
theorem yu {K:Jb}{H1 H':Hp}{b c p:Addr}{t:Int}{as:List Addr}{ns cs:List Str}(bx:Bx H1 b c t)(hp:H1 p=none)(hl:H' p=some (.lst (as.map V.ref)))(hle:ns.length=cs.length)
  (vS:as.length=min (ns.map V.str).length (cs.map V.str).length) (h:∀(j:Nat) a x y,as[j]? = some a->(ns.map V.str)[j]? = some x->(cs.map V.str)[j]? = some y->H1 a=none/\H' a=some (.tup [x,y])) :
  yd K (bM H' b c) (ns.zip cs) (.ref p):=by
 have O2:as.length=ns.length:=by rw[vS,Ja,Ja,<-hle,Nat.min_self]
 obtain⟨pb,pc⟩:=bx.aY hp
 refine⟨p,_,rfl,by rw[bZ pb pc];exact hl,aB.of_get ?_ fun j d v hd hv =>?_⟩
 ·rw[Ja,Ja,List.length_zip];omega
 ·rw[Jk] at hd hv
  have hj:j<as.length:=by
   cases e:as[j]? with
   | none=>rw[e] at hv;cases hv
   | some a=>exact(Jx.mp e).1
  have e1:as[j]? = some as[j]:=Jd hj
  have e2:ns[j]? = some (ns[j]'(by omega)):=Jd (by omega)
  have e3:cs[j]? = some (cs[j]'(by omega)):=Jd (by omega)
  rw[e1] at hv;cases hv
  rw[(List.getElem?_zip_eq_some (z:=(ns[j]'(by omega),cs[j]'(by omega)))).mpr ⟨e2,e3⟩] at hd
  cases hd
  obtain⟨h1,h2⟩:=h j as[j] _ _ e1 (by rw[Jk,e2];rfl) (by rw[Jk,e3];rfl)
  obtain⟨ab,ac⟩:=bx.aY h1
  exact Den.pairOf (by rw[bZ ab ac];exact h2)
structure bH (n:Nat)(x:Str):Prop where
 bin:iB x
 pos:1<=x.length
 le:x.length<=n
theorem bH.mono {n m:Nat}{x:Str}(h:bH n x)(le:n<=m):bH m x:=⟨h.bin,h.pos,Jr h.le le⟩
theorem iB.app {x y:Str}(h:iB x)(h':iB y):iB (x++y):=fun ch hc=>by
 rw[bh] at hc
 rcases Jh.mp hc with q|q
 ·exact h ch q
 ·exact h' ch q
theorem iY (cs:List Str):(!PyData.eqv (.list (cs.map PyData.str)) (.list [])) = !cs.isEmpty:=by
 cases cs<;>simp[PyData.eqv,PyData.eqvAll]
noncomputable abbrev sg (x:Str):List Nat:=x.cps.toList
def RF (a b:Str):Prop := ¬(sg a <+: sg b)/\¬(sg b <+: sg a)
theorem RF.symm {a b:Str}(h:RF a b):RF b a:=⟨h.2,h.1⟩
theorem kf (x y:Str):sg (x++y)=sg x++sg y:=bh x y
theorem RF.ext {a b u v:Str}(h:RF a b):RF (a++u) (b++v):=by
 refine⟨fun z =>?_,fun z =>?_⟩
 ·rw[kf,kf] at z
  rcases List.prefix_or_prefix_of_prefix ((List.prefix_append _ _).trans z) (List.prefix_append (sg b) (sg v)) with q|q
  ·exact h.1 q
  ·exact h.2 q
 ·rw[kf,kf] at z
  rcases List.prefix_or_prefix_of_prefix ((List.prefix_append _ _).trans z) (List.prefix_append (sg a) (sg u)) with q|q
  ·exact h.2 q
  ·exact h.1 q
abbrev eZ (cs:List Str):Prop:=cs.Pairwise RF
theorem eZ.perm {cs ds:List Str}(h:eZ cs)(p:cs.Perm ds):eZ ds:=(p.pairwise_iff fun h=>RF.symm h).mp h
theorem eZ.sub {cs ds:List Str}(h:eZ cs)(s:ds.Sublist cs):eZ ds:=List.Pairwise.sublist s h
noncomputable abbrev s0:Str := "0"
noncomputable abbrev s1:Str := "1"
theorem RF.two (x:Str):RF (x++s0) (x++s1):=by
 have e0:sg (x++s0)=sg x++[48]:=bh x s0
 have e1:sg (x++s1)=sg x++[49]:=bh x s1
 refine⟨fun z =>?_,fun z =>?_⟩
 ·rw[e0,e1] at z
  have:=z.eq_of_length (by simp)
  simp at this
 ·rw[e0,e1] at z
  have:=z.eq_of_length (by simp)
  simp at this
theorem RF.one {x y u:Str}(h:RF y x):RF y (x++u):=by
 have z:=h.ext (u:=Str.empty) (v:=u)
 have e:y++Str.empty=y:=by
  show(⟨y.cps ++ #[]⟩:Str)=y
  simp
 rw[e] at z
 exact z
theorem eZ.split {A B:List Str}{x:Str}(h:eZ (A++x::B)):eZ (A++[x++s0,x++s1]++B):=by
 rw[Ul]
 refine ae.el (J8.mp h) _ ?_
 rintro hA hxB hAB
 obtain⟨hx,hB⟩:=List.pairwise_cons.mp hxB
 refine J8.mpr ⟨hA,?_,fun a ha y hy =>?_⟩
 ·refine J8.mpr ⟨List.pairwise_cons.mpr ⟨fun y hy=>by rw[Jg.mp hy];exact RF.two x,Y6 _ _⟩,hB,fun y hy z hz =>?_⟩
  have q:=(hx z hz).symm
  simp at hy
  rcases hy with rfl|rfl
  ·exact q.one.symm
  ·exact q.one.symm
 ·rcases Jh.mp hy with hy|hy
  ·have q:=hAB a ha x Jq
   simp at hy
   rcases hy with rfl|rfl
   ·exact q.one
   ·exact q.one
  ·exact hAB a ha y (Jn _ hy)
theorem xP {cs:List Str}{k:Nat}{x:Str}(h:cs[k]? = some x):cs=cs.take k++x::cs.drop (k+1):=by
 obtain⟨hk,e⟩:=Jx.mp h
 rw[<-e,<-Yy hk,Ye]
theorem wg {cs:List Str}{k:Nat}{x:Str}(h:cs[k]? = some x):cs.Perm (x::cs.eraseIdx k):=by
 have e:=xP h
 have e2:cs.eraseIdx k=cs.take k++cs.drop (k+1):=Yg _ _
 rw[e2]
 conv=>lhs;rw[e]
 exact List.perm_middle
theorem FN:eZ [s0,s1]:=by
 refine List.pairwise_cons.mpr ⟨fun y hy =>?_,Y6 _ _⟩
 rw[Jg.mp hy]
 have:=RF.two Str.empty
 exact this
theorem dq {x y:Str}(h:sg x=sg y):x=y:=by
 cases x;cases y
 simp only[sg] at h
 rw[Array.toList_inj.mp h]
theorem Bv {x:Str}{j:Int}(h0:0<=j)(h1:j<=x.length):sg (Txt.slice x none (some j))=(sg x).take j.toNat:=by
 have e:=PyProof.Rows.slice_closes_to (x:=x) (j:=j) ⟨h0,by rw[<-str_len];exact h1⟩
 rw[eq_of_beq e]
 simp
theorem bJ {H:Hp}{b c:Addr}:aj (bM H b c) H:=fun a o e=>(eE e).1
def nW (K:Jb):Sp:=fun vs H Q _=>cq fun(a:Addr) (ns:List Int)=>vs=[.ref a]/\aK K H a (ns.map V.int)/\ns.length<=63 /\
 ∀(b c:Addr) (H':Hp),Bx H' b c 0->H b=none->H c=none->aj H (bM H' b c)->Q (.ref b) H'
theorem Den.ints {K:Jb}{H:Hp}:∀(ns:List Int),aB K H (ns.map PyData.int) (ns.map V.int)
 | []=>by unfold aB;rfl
 | n::ns=>by
  rw[Uj,Uj]
  unfold aB
  exact⟨_,_,rfl,by unfold Den;rfl,Den.ints ns⟩
theorem C2 (ds:List PyData):PyData.eqv (.list ds) (.list [])=ds.isEmpty:=by
 cases ds<;>simp[PyData.eqv,PyData.eqvAll]
theorem yX {n:Nat}(ns:List Int):Sh (n+1) (.list (ns.map PyData.int)):=Sh.list fun d hd=>by
 refine ae.el (Ug.mp hd) _ ?_
 rintro i _ rfl
 exact Sh.int
section
variable {P:Program}{w:World}{K:Jb}{mg:Str->Option Value}{base:Heap}{f:Addr}{fd:FuncData}
theorem fy:aO ["_law_script", "_law_cells"] ["_law_script"] (aA (top gi)):=⟨rfl,rfl,rfl,by decide +kernel,rfl,by decide +kernel,by decide +kernel⟩
theorem yb (F:dj K "_law_begin" "_law_begin" (top gi) f fd)(T:Nm mg):bW P w K mg base fI 1 f fd ["_law_script"] (nW K):=by
 refine F.ok fy (fun vs H Q E h =>?_) (fun dZ A outer s H vs Q E hr h =>?_)
 ·obtain⟨a,ns,rfl,_⟩:=h
  rfl
 obtain⟨a,ns,rfl,hS,hlen,q⟩:=h
 have eK:=hr.units
 refine⟨_,(ah (aN (i:=1) fy.nd rfl (Or.inl rfl) (cC (Bw K) rfl T.n_list (by rfl) (aa (bg (oU K) (pv 0) bB (bw ao)) ag)))
  (ah (bS (aI (ur K eK) (pv 1) (eP ag) (aL _)) (au (aN (i:=1) fy.nd rfl (Or.inl rfl) (eP (aa ao ag)))) aV)
  (au (aJ (FV (pL bu (pv 1) (pL bu ao AZ)) rfl rfl (by decide) (by decide)))))),?_⟩
 refine⟨_,rfl,_,rfl,.inl ⟨a,_,rfl,hS,fun r1 H1 n1 =>?_⟩⟩
 refine⟨r1,_,rfl,.inl (aK.of n1.at),fun r2 H2 n2=>gn ?_⟩
 have hc:oP (ns.map V.int) none (some 63)=ns.map V.int:=by
  have e:=BZ (ns.map V.int) 63
  rw[Yi (by rw[Ja];exact hlen)] at e
  exact e
 have CY:H2 r2=some (.lst (ns.map V.int)):=by rw[<-hc];exact n2.at
 have Ml:=n1.same.trans n2.same
 dsimp only
 refine cW (t:=g7 _ _ _) (fun σ H'=>cq fun(r:Addr) (Ao:List Int) =>σ=[some (.ref a),some (.ref r)]/\H' r=some (.lst (Ao.map V.int))/\0<Ao.length/\Ao.length<=64/\H r=none/\aj H H') (fun Nx nx =>?_) ?_
 ·refine⟨_,rfl,by show 0<=sizeLine;decide,fun r3 H3 n3 =>?_⟩
  have d2:Den K H3 (.list (ns.map PyData.int)) (.ref r2):=Den.list (aK.of (n3.same _ _ CY)) (Den.ints ns)
  have d3:Den K H3 (.list []) (.ref r3):=Den.list (aK.of n3.at) (Den.ints [])
  refine .inr ⟨_,_,d2,d3,(yX (n:=1) ns).shaped (by decide),by decide +kernel,_,rfl,?_⟩
  rw[C2]
  refine fe (fun e =>?_) (fun e =>?_)
  ·refine⟨by show 1<=sizeLine;decide,fun r4 H4 n4=>gn (nx _ _ ⟨r4,[_],rfl,n4.at,by decide,by decide,(Ml.trans n3.same).free n4.nn,Ml.trans (n3.same.trans n4.same)⟩)⟩
  ·refine nx _ _ ⟨r2,ns,rfl,n3.same _ _ CY,?_,by omega,n1.same.free n2.nn,Ml.trans n3.same⟩
   cases ns with
   | nil=>exact absurd rfl e
   | cons _ _=>exact Nat.succ_pos _
 intro σ H3
 refine ae.go ?_
 rintro r Ao rfl vE l0 l1 hn sm
 intro p H0 n0
 refine⟨_,rfl,?_⟩
 refine⟨n0.at,[(.inr "cells",.ref r),(.inr "turn",.int 0)],rfl,by show 2<=15;decide,fun H6 n6 =>?_⟩
 have NI:r≠p:=aq vE n0.nn
 have hp:H p=none:=sm.free n0.nn
 refine q p r H6 ⟨Ao,?_,?_,l0,l1⟩ hp hn (fun b o e =>?_)
 ·rw[n6.at];rfl
 ·rw[n6.ne NI,n0.ne NI];exact vE
 ·have yD:b≠p:=aq e hp
  have OY:b≠r:=aq e hn
  rw[bZ yD OY,n6.ne yD,n0.ne yD]
  exact sm _ _ e
end
theorem aQ {α:Type}{l:List α}{i:Nat}(h:i<l.length):l.take (i+1)=l.take i++[l[i]]:=by
 rw[List.take_succ,Jd h];rfl
theorem zd (i j:Int)(n:Nat)(h:n<=j):PySem.Builtin.Str.strSliceIndices (some i) (some j) 1 n=PySem.Builtin.Str.strSliceIndices (some i) (some (n:Int)) 1 n:=by
 unfold PySem.Builtin.Str.strSliceIndices
 dsimp only
 congr 1
 have a:¬j<0:=by omega
 have b:¬((n:Nat):Int)<0:=by omega
 rw[if_neg a,if_neg b]
 omega
theorem B6 {x:Str}{p q:Nat}(h1:p<=q)(h2:p<=x.length):sg (Txt.slice x (some (p:Int)) (some (q:Int)))=((sg x).drop p).take (q-p):=by
 by_cases hq:q<=x.length
 ·have e:=PyProof.Rows.slice_closes (x:=x) (i:=p) (j:=q) ⟨by omega,by omega,by rw[<-str_len];omega⟩
  rw[eq_of_beq e]
  show(((sg x).drop (p:Int).toNat).take ((q:Int)-p).toNat).toArray.toList=_
  rw[List.toList_toArray]
  congr 1
  omega
 ·have e:=PyProof.Rows.slice_closes (x:=x) (i:=p) (j:=(x.length:Int)) ⟨by omega,by omega,by rw[<-str_len];omega⟩
  have e2:Txt.slice x (some (p:Int)) (some (q:Int))=Txt.slice x (some (p:Int)) (some ((x.length:Nat):Int)):=by
   unfold Txt.slice
   rw[zd _ _ _ (show((x.length:Nat):Int)<=q by omega)]
  rw[e2,eq_of_beq e]
  show(((sg x).drop (p:Int).toNat).take ((x.length:Int)-p).toNat).toArray.toList=_
  rw[List.toList_toArray,Yi,Yi]
  ·rfl
  ·rw[Ui,<-str_len];omega
  ·rw[Ui,<-str_len];omega
theorem kr {α:Type}{f: α->Key×V}{k:Key}:∀{l:List α},(∀y∈l,(f y).1≠k)->aW (l.map f) k=none
 | [],_=>rfl
 | y::l,h=>by
  rw[Uj,bU (h y Jq)]
  exact kr fun z hz=>h z (Jn _ hz)
end Z
set_option maxRecDepth 200000
namespace Z
open PySem L2
def o7 (K:Jb)(H:Hp)(bk:List (Str×Str))(l:Addr):Prop:=∃vs,aK K H l vs/\aB K H (bk.map fun q =>.tuple [.str q.1,.str q.2]) vs
theorem o7.same {K:Jb}{H H':Hp}{bk:List (Str×Str)}{l:Addr}(h:o7 K H bk l)(s:aj H H'):o7 K H' bk l:=by
 obtain⟨vs,h1,h2⟩:=h
 exact⟨vs,s.seq h1,h2.same s⟩
theorem qm {K:Jb}{H:Hp}{bk:List (Str×Str)}{vs:List V}(h:aB K H (bk.map fun q =>.tuple [.str q.1,.str q.2]) vs){i:Nat}(hi:i<bk.length):∃tp,vs[i]? = some (.ref tp)/\fP K H tp [.str bk[i].1,.str bk[i].2]:=by
 obtain⟨v,h1,h2⟩:=h.get (i:=i) (d := .tuple [.str bk[i].1,.str bk[i].2]) (by rw[Jk,Jd hi];rfl)
 refine ae.el (h2.pair) _ ?_
 rintro tp rfl h3
 exact⟨tp,h1,h3⟩
theorem oO {K:Jb}{H:Hp}{bk:List (Str×Str)}{vs:List V}(h:aB K H (bk.map fun q =>.tuple [.str q.1,.str q.2]) vs):vs.length=bk.length:=by rw[h.len,Ja]
noncomputable def cG (a b k:Nat):Str:=⟨(Jp k a++[b]).toArray⟩
theorem dC (a b k:Nat):sg (cG a b k)=Jp k a++[b]:=by unfold cG;show _=_;simp
theorem AD {a b i j:Nat}(h:a≠b)(fq:i<j):RF (cG a b i) (cG a b j):=by
 have key:¬(Jp i a++[b]) <+: (Jp j a++[b]):=fun p=>by
  obtain⟨r,e⟩:=p
  have h1:((Jp i a++[b])++r)[i]? = some b:=by
   rw[Ul,Jz (by simp),Uo,Nat.sub_self];rfl
  rw[e,J6 (by simp;omega),U0,if_pos fq] at h1
  exact h (Option.some.inj h1)
 refine⟨by rw[dC,dC];exact key,fun p =>?_⟩
 rw[dC,dC] at p
 have:=p.length_le
 simp at this
 omega
theorem mR {a b:Nat}(h:a≠b)(m:Nat):eZ ((Uu m).map (cG a b)):=Wg.mpr (List.pairwise_lt_range.imp fun fq=>AD h fq)
theorem u7 {a b k:Nat}(ha:a=48∨a=49)(hb:b=48∨b=49)(hk:k<=23):bH 24 (cG a b k):=by
 refine⟨fun ch hc =>?_,?_,?_⟩
 ·have hc:ch∈sg (cG a b k):=hc
  rw[dC] at hc
  rcases Jh.mp hc with hc|hc
  ·rw[(List.mem_replicate.mp hc).2];exact ha
  ·rw[Jg.mp hc];exact hb
 all_goals
  rw[str_len]
  have e:(cG a b k).cps.toList=Jp k a++[b]:=dC a b k
  rw[e,Jf,Uo]
  simp
 omega
structure Dn (n:Nat)(cs:List Str):Prop where
 len:∀x∈cs,x.length=n
 bin:∀x∈cs,iB x
 nd:cs.Nodup
theorem Dn.free {n:Nat}{cs:List Str}(h:Dn n cs):eZ cs:=by
 refine Ya.mpr fun i j hi hj fq =>?_
 have ne:=Ya.mp (Uz.mp h.nd) i j hi hj fq
 have l1:=h.len _ (Jo hi)
 have l2:=h.len _ (Jo hj)
 rw[str_len] at l1 l2
 refine⟨fun p=>ne (dq (p.eq_of_length ?_)),fun p=>ne (dq (p.eq_of_length ?_)).symm⟩
 ·show(sg cs[i]).length=(sg cs[j]).length
  exact l1.trans l2.symm
 ·show(sg cs[j]).length=(sg cs[i]).length
  exact l2.trans l1.symm
theorem qr (a:Nat):∀(k:Nat) (acc:Array Nat),((Jp k #[a]).foldl (· ++ ·) acc).toList=acc.toList++Jp k a
 | 0,acc=>by simp
 | k+1,acc=>by
  rw[Yd,List.foldl_cons,qr a k,Yd]
  simp
theorem zJ (a k:Nat):sg (Txt.mul (⟨#[a]⟩:Str) (k:Int))=Jp k a:=by
 unfold Txt.mul
 split
 ·have:k=0:=by omega
  subst this;rfl
 ·split
  ·rename_i h1 h2
   have:k=1:=by
    have h2:((k:Int)==1)=true:=by
     rcases Bool.or_eq_true_iff.mp h2 with h|h
     ·exact h
     ·exact absurd h (by simp[Str.length])
    have:=eq_of_beq h2
    omega
   subst this;rfl
  ·show((Jp (k:Int).toNat #[a]).foldl (· ++ ·) #[]).toList=_
   rw[qr];simp
structure sY (i:Nat)(x:Str):Prop where
 le:x.length<=8
 last:x.cps.toList.getLast? = some (97+i)
theorem sY.nodup {xs:List Str}(h:∀(i:Nat) x,xs[i]? = some x->sY i x):xs.Nodup:=by
 refine Uz.mpr (Ya.mpr fun i j hi hj fq e =>?_)
 have h1:=(h i _ (Jd hi)).last
 have h2:=(h j _ (Jd hj)).last
 rw[e,h2] at h1
 have h1:=Option.some.inj h1
 omega
theorem lN:∀{xs:List Str},(∀x∈xs,∃ch:Nat,x=⟨#[ch]⟩)->(xs.flatMap (fun p=>p.cps.toList)).length=xs.length/\(xs.map (·.length)).sum=xs.length
 | [],_=>⟨rfl,rfl⟩
 | x::r,h=>by
  obtain⟨ch,rfl⟩:=h x Jq
  obtain⟨h1,h3⟩:=lN fun y hy=>h y (Jn _ hy)
  refine⟨by simp at h1 ⊢;omega,?_⟩
  rw[Uj,List.sum_cons,h3]
  show 1+_=_
  simp;omega
section
variable {P:Program}{w:World}{K:Jb}{mg:Str->Option Value}{base:Heap}{f:Addr}{fd:FuncData}
theorem d5:aO ["_law_state", "_law_many", "_law_letters", "_law_found", "_law_k"] ["_law_state", "_law_many"] (aA (top gG)):=⟨rfl,rfl,rfl,by decide +kernel,rfl,by decide +kernel,by decide +kernel⟩
end
def zL:Sp:=fun vs H Q _=>BM fun(b c:Addr) (t many most:Int)=>vs=[.ref b,.int many,.int most]/\Bx H b c t/\0<=t/\t<900000/\1<=many/\many<=12/\1<=most/\most<=12 /\
 ∀(cs:List Str) (l:Addr) (H':Hp) (t':Int),cs≠[]->(cs.length:Int)<=many->eZ cs->(∀x∈cs,bH most.toNat x)->Step b c H H' t t' 40->H l=none->H' l=some (.lst (cs.map V.str))->Q (.ref l) H'
theorem BQ {n:Nat}(h:1<=n):bH n s0:=⟨fun ch hc =>.inl (by have:ch∈[48]:=hc;simpa using this),by decide +kernel,h⟩
theorem BI {n:Nat}(h:1<=n):bH n s1:=⟨fun ch hc =>.inr (by have:ch∈[49]:=hc;simpa using this),by decide +kernel,h⟩
theorem bH.JC {n:Nat}{x:Str}(h:bH n x)(hl:x.length<n):bH n (x++s0):=by
 have e:s0.length=1:=by decide +kernel
 exact⟨h.bin.app (BQ (n:=1) (by decide)).bin,by rw[cL];omega,by rw[cL];omega⟩
theorem bH.L5 {n:Nat}{x:Str}(h:bH n x)(hl:x.length<n):bH n (x++s1):=by
 have e:s1.length=1:=by decide +kernel
 exact⟨h.bin.app (BI (n:=1) (by decide)).bin,by rw[cL];omega,by rw[cL];omega⟩
theorem uT (xs:List Str)(k:Nat):(xs.map V.str).eraseIdx k=(xs.eraseIdx k).map V.str:=by
 rw[Yg,Yg,Jl,List.map_take,List.map_drop]
theorem oM {cs:List Str}(h:∀x∈cs,iB x):SeqAt.shaped (.list (cs.map PyData.str))=true:=(Sh.list (n:=0) fun d hd=>by
   refine ae.el (Ug.mp hd) _ ?_
   rintro x hx rfl
   exact Sh.str (iI fun ch hc=>by rcases h x hx ch hc with e|e<;>omega)).shaped (by decide)
theorem rf:SeqAt.shaped (.list [])=true:=(Sh.list (n:=0) fun d hd=>by simp at hd).shaped (by decide)
section
variable {P:Program}{w:World}{K:Jb}{mg:Str->Option Value}{base:Heap}{f:Addr}{fd:FuncData}
abbrev Nu (b c:Addr)(H:Hp)(t many most mo:Int)(k:Nat)(σ:L2.St)(H':Hp):Prop:=GY fun(cs:List Str) (l:Addr) (t':Int) (x5 x6 x7:Option V) =>σ=[some (.ref b),some (.int many),some (.int most),some (.ref l),some (.int mo),x5,x6,x7,none]/\1<=cs.length/\(cs.length:Int)<=many+mo+1/\eZ cs/\(∀x∈cs,bH most.toNat x)/\Step b c H H' t t' k/\H l=none/\l≠b/\l≠c/\H' l=some (.lst (cs.map V.str))
theorem cw:aO ["_law_state", "_law_many", "_law_most", "_law_leaves", "_law_more", "_law_turn", "_law_some", "_law_leaf", "_law_found"] ["_law_state", "_law_many", "_law_most"] (aA (top il)):=⟨rfl,rfl,rfl,by decide +kernel,rfl,by decide +kernel,by decide +kernel⟩
theorem zC (F:dj K "_law_free" "_law_free" (top il) f fd)(T:Nm mg)(aD:Fn P w K mg base 1 "_law_take" ["_law_state", "_law_many"] qM):bW P w K mg base fI 2 f fd ["_law_state", "_law_many", "_law_most"] zL:=by
 refine F.ok cw (fun vs H Q E h =>?_) (fun dZ A outer s H vs Q E hr h =>?_)
 ·obtain⟨b,c,t,many,most,rfl,_⟩:=h
  rfl
 unfold zL at h
 refine ae.el h _ ?_
 clear h
 rintro b c t many most rfl bx t0 t1 m0 m1 o0 o1 q
 have eK:=hr.units
 have z1:sizeLine>=10000000:=by decide
 refine⟨_,(ah (aN (i:=3) cw.nd rfl (Or.inl rfl) (eP (aa bu (aa bu ag))))
  (ah (aN (i:=4) cw.nd rfl (Or.inl rfl) (aP (aD.mono (by decide)) hr rfl (aa (pv 0) (aa ao ag))))
  (ah (fH PassesOwn.never rfl (du rfl T.n_range (aa (pv 1) ag)) (av (i:=5) cw.nd rfl (Or.inl rfl)) (ah (bV (i:=6) cw.nd rfl (Or.inl rfl) rfl (aM (Nc:=["_law_leaf"]) (Fc:=["_law_most"]) (js:=[2])) (iA K (pv 3)) (az (i:=0) (n:=1) (by decide)) (fun _ _ _ _ _=>(av (i:=0) (d4 ["_law_leaf", "_law_most"]) rfl (Or.inl rfl))) (fun _ _ _ _ _=>(iD (aI ko (aw (dy K) rfl T.n_len (by rfl) (aa (pv 0) ag)) (pv 1) (aL _)))) (fun _ _ _ _ _=>(pv 0)))
  (au (bS (PW.pt (iw (aI (tE K eK) (pv 6) (eP ag) (aL _)) (gI (aI ko (aw (dy K) rfl T.n_len (by rfl) (aa (pv 3) ag)) (aH b0 (pv 1) (pv 4)) (aL _))))) (ah (aN (i:=7) cw.nd rfl (Or.inl rfl) (cX (mF K) (pv 6) (aP (aD.mono (by decide)) hr rfl (aa (pv 0) (aa (aw (dy K) rfl T.n_len (by rfl) (aa (pv 6) ag)) ag))) (fun _ _=>rfl)))
  (ah (gK (vK K PySem.F.plainAttrs_list PySem.F.slot_list_remove PySem.F.type_list_remove AU (pv 3) (aa (pv 7) ag)))
  (au (aN (i:=3) cw.nd rfl (Or.inl rfl) (aH b0 (pv 3) (eP (aa (aH b0 (pv 7) bu) (aa (aH b0 (pv 7) bu) ag)))))))) aV))))
  (ah (aN (i:=8) cw.nd rfl (Or.inl rfl) (eP ag))
  (ah (lE PassesOwn.never (PW.pt (iw (aI (tE K eK) (pv 3) (eP ag) (aL _)) (gI (aI ko (aw (dy K) rfl T.n_len (by rfl) (aa (pv 8) ag)) (pv 1) (aL _))))) (au (gK (vK K PySem.F.plainAttrs_list PySem.F.slot_list_append PySem.F.type_list_append ud (pv 8) (aa (vK K PySem.F.plainAttrs_list PySem.F.slot_list_pop PySem.F.type_list_pop De (pv 3) (aa (aP (aD.mono (by decide)) hr rfl (aa (pv 0) (aa (aw (dy K) rfl T.n_len (by rfl) (aa (pv 3) ag)) ag))) ag)) ag)))))
  (au (aJ (pv 8)))))))),?_⟩
 refine⟨by show 2<=sizeLine;decide,fun l1 H1 n1=>gn ?_⟩
 have Nr:=(bx.aY n1.nn).1
 have Nd:=(bx.aY n1.nn).2
 have eQ:=(Step.refl bx).eg n1
 refine⟨_,rfl,b,c,t,3,rfl,eQ.bx,by omega,by omega,by decide,by decide,fun mo H2 mo0 mo1 bN=>gn ?_⟩
 have CK:=bN.old n1.at Nr Nd
 have bN:=eQ.trans bN
 dsimp only
 refine cW (t:=qQ _ _ _) (Nu b c H t many most mo 13) (fun Nx nx =>?_) ?_
 ·refine⟨_,rfl,_,rfl,by omega,by omega,?_⟩
  refine mL (lo:=0) (n:=many.toNat) (fun i=>Nu b c H t many most mo (1+i)) ⟨[s0,s1],l1,_,_,_,_,rfl,by decide,by show(2:Int)<=many+mo+1;omega,FN,?_,bN.more (by omega),n1.nn,Nr,Nd,CK⟩ ?_ ?_
  ·intro x hx
   simp at hx
   rcases hx with rfl|rfl
   ·exact BQ (by omega)
   ·exact BI (by omega)
  ·intro i σ H3 hi
   refine ae.go ?_
   rintro cs l t3 x5 x6 x7 rfl hc1 hcm fr ok cN hl lb lc ji
   have Nw:=cN.ub
   have yF:=cN.le
   have hlen:(cs.map V.str).length=cs.length:=Ja _
   have yJ:∀{k:Nat} (hk:k<cs.length),(cs.map V.str)[k]? = some (.str cs[k]):=fun hk=>by rw[Jk,Jd hk];rfl
   dsimp only
   refine dc (te:=fY _ _ _ _ _ _) (fun v H'=>cq fun(ss:List Str) (p:Addr)=>v = .ref p/\dX H3 p (.lst (ss.map V.str)) H'/\ss.length<=cs.length/\∀x∈ss,x∈cs/\(x.length:Int)<most) (fun Qn qn =>?_) ?_
   ·refine⟨_,rfl,l,rfl,⟨_,aK.of ji⟩,?_⟩
    refine gu (N:=cs.length) (fun k ys H'=>H'=H3/\∃ss:List Str,ys=ss.map V.str/\ss.length<=k/\∀x∈ss,x∈cs/\(x.length:Int)<most) ⟨rfl,[],rfl,Je _,(fun _ h=>nomatch h)⟩ ?_ ?_
    ·intro k ys H4 Ny hk hz_ ny
     refine ae.el hz_ _ ?_
     clear hz_
     rintro rfl ss rfl hss hs
     refine⟨⟨_,_,aK.of ji,yJ hk⟩,by rw[Ja];omega,?_⟩
     rintro x H5 ⟨rfl,hy⟩
     have e:=hy _ (aK.of ji)
     rw[yJ hk] at e;cases e
     have hle:=(ok _ (Jo hk)).le
     refine gn ⟨_,rfl,_,_,rfl,⟨sizeOk (by omega),rfl⟩,_,rfl,_,_,rfl,rfl,_,rfl,fe (fun e =>?_) (fun e=>ny _ _ ⟨rfl,ss,rfl,by omega,hs⟩)⟩
     have e:=of_decide_eq_true e
     refine⟨_,rfl,ny _ _ ⟨rfl,ss++[cs[k]],by rw[Jl];rfl,by rw[Jf];show _+1<=_;omega,fun x hx =>?_⟩⟩
     rcases Jh.mp hx with hx|hx
     ·exact hs x hx
     ·rw[Jg.mp hx];exact⟨Jo hk,e⟩
    ·intro ys H4
     refine ae.go ?_
     rintro rfl ss rfl hss hs
     exact⟨⟨_,aK.of ji,by omega⟩,fun p H5 n5=>qn _ _ ⟨ss,p,rfl,n5,hss,hs⟩⟩
   intro v H4
   refine ae.go ?_
   rintro ss p rfl n4 hss hs
   refine gn ?_
   have zW:=n4.same _ _ ji
   have jz:=cN.eg n4
   have pb:=(cN.bx.aY n4.nn).1
   have pc:=(cN.bx.aY n4.nn).2
   have Di:∀x∈ss,iB x:=fun x hx=>(ok x (hs x hx).1).bin
   refine⟨_,rfl,by show 0<=sizeLine;decide,fun p5 H5 n5 =>.inr ⟨_,_,Den.list (aK.of (n5.same _ _ n4.at)) (Den.strs _),Den.list (aK.of n5.at) (by unfold aB;rfl),oM Di,rf,_,rfl,?_⟩⟩
   rw[iY]
   have vN:=n5.same _ _ zW
   have jV:=n5.same _ _ n4.at
   have cS:=jz.eg n5
   by_cases hss0:ss=[]
   ·have e:(!ss.isEmpty)=false:=by rw[hss0];rfl
    rw[e]
    exact bI (bI ⟨cs,l,_,_,_,_,rfl,hc1,hcm,fr,ok,cS.more (by omega),hl,lb,lc,vN⟩)
   have e:(!ss.isEmpty)=true:=by cases ss with|nil=>exact absurd rfl hss0|cons _ _=>rfl
   rw[e]
   have Aj:0<ss.length:=List.length_pos_iff.mpr hss0
   refine bK ⟨_,rfl,_,_,rfl,.inl ⟨_,aK.of vN,rfl⟩,_,rfl,_,rfl,.inl ⟨_,_,rfl,rfl,_,_,rfl,rfl,_,rfl,fe (fun e2 =>?_) (fun e2=>⟨cs,l,_,_,_,_,rfl,hc1,hcm,fr,ok,cS.more (by omega),hl,lb,lc,vN⟩)⟩⟩
   have e2:(cs.length:Int)<many+mo:=by have:=of_decide_eq_true e2;rw[hlen] at this;exact this
   have Q0:(ss.map V.str).length=ss.length:=Ja _
   refine⟨_,rfl,_,rfl,_,rfl,_,_,rfl,.inl ⟨_,aK.of jV,rfl⟩,b,c,_,_,rfl,cS.bx,by omega,by omega,by omega,by omega,fun r H6 r0 r1 jo =>?_⟩
   have vE:r.toNat<ss.length:=by omega
   have vY:=jo.old jV pb pc
   have A9:=jo.old vN lb lc
   have jo:=cS.trans jo
   have Bu:rg (ss.map V.str) r=some (.str ss[r.toNat]):=e9 r0 (by rw[Jk,Jd vE];rfl)
   have kO:=(hs _ (Jo vE)).1
   have cF:=(hs _ (Jo vE)).2
   generalize ss[r.toNat]=x at Bu kO cF
   refine .inl ⟨p,_,_,_,rfl,rfl,aK.of vY,Bu,gn ?_⟩
   dsimp only
   refine⟨_,rfl,.inl ⟨rfl,_,aK.of A9⟩,_,rfl,l,cs,x,rfl,rfl,A9,kO,fun H7 c7 =>?_⟩
   have jH:=jo.AG c7 hl lb lc
   have e0:s0.length=1:=by decide +kernel
   have e1:s1.length=1:=by decide +kernel
   refine⟨_,rfl,_,rfl,.inr (.inl ⟨_,_,rfl,rfl,sizeOk (by rw[e0];omega),_,rfl,.inr (.inl ⟨_,_,rfl,rfl,sizeOk (by rw[e1];omega),by show 2<=sizeLine;decide,fun p8 H8 n8 =>?_⟩)⟩)⟩
   have Ee:(cs.erase x).length=cs.length-1:=List.length_erase_of_mem kO
   refine .inr (.inr ⟨l,p8,_,_,rfl,rfl,n8.same _ _ c7.at,n8.at,by rw[Ja,Ee];exact sizeOk (by show _+2<=_;omega),fun p9 H9 n9=>gn ?_⟩)
   have gR:=jH.eg n8
   have Qh:=(gR.bx.aY n9.nn).1
   have P1:=(gR.bx.aY n9.nn).2
   have N6:=ok x kO
   refine⟨cs.erase x++[x++s0,x++s1],p9,_,_,_,_,rfl,by rw[Jf];show _<=_+2;omega,?_,?_,fun y hy =>?_,(gR.eg n9).more (by omega),gR.fresh bx n9.nn,Qh,P1,?_⟩
   ·rw[Jf,Ee]
    show(((cs.length-1+2:Nat)):Int)<=_
    omega
   ·have h2:eZ (cs.erase x++x::[]):=fr.perm ((List.perm_cons_erase kO).trans (List.perm_append_singleton x _).symm)
    have h3:=eZ.split h2
    rwa[U6] at h3
   ·rcases Jh.mp hy with hy|hy
    ·exact ok y (List.mem_of_mem_erase hy)
    ·simp at hy
     rcases hy with rfl|rfl
     ·exact N6.JC (by omega)
     ·exact N6.L5 (by omega)
   ·rw[n9.at,Jl];rfl
  ·intro σ H3
   refine ae.go ?_
   rintro cs l t3 x5 x6 x7 rfl hc1 hcm fr ok cN hl lb lc ji
   exact nx _ _ ⟨cs,l,t3,x5,x6,x7,rfl,hc1,hcm,fr,ok,cN.more (by omega),hl,lb,lc,ji⟩
 intro σ H3
 refine ae.go ?_
 rintro cs l t3 x5 x6 x7 rfl hc1 hcm fr ok cN hl lb lc ji
 have Nw:=cN.ub
 have yF:=cN.le
 refine⟨by show 0<=sizeLine;decide,fun fp H4 n4=>gn ?_⟩
 dsimp only
 have hf:H fp=none:=cN.fresh bx n4.nn
 have fb:=(cN.bx.aY n4.nn).1
 have fc:=(cN.bx.aY n4.nn).2
 have lf:l≠fp:=fun z=>by have:=n4.nn;rw[<-z,ji] at this;cases this
 refine cW (t:=lr _ _) (fun σ H'=>gO fun(fs:List Str) (t':Int) (x3:Option V) =>σ=[some (.ref b),some (.int many),some (.int most),x3,some (.int mo),x5,x6,x7,some (.ref fp)]/\fs≠[]/\(fs.length:Int)<=many/\eZ fs/\(∀x∈fs,bH most.toNat x)/\Step b c H H' t t' 40/\H' fp=some (.lst (fs.map V.str))) (fun Nx nx =>?_) ?_
 ·refine oE (fun m σ H'=>gO fun(fs ds:List Str) (t':Int)=>m=ds.length /\ σ=[some (.ref b),some (.int many),some (.int most),some (.ref l),some (.int mo),x5,x6,x7,some (.ref fp)]/\(fs++ds).Perm cs/\(fs.length:Int)<=many/\Step b c H H' t t' (13+fs.length)/\H' fp=some (.lst (fs.map V.str))/\H' l=some (.lst (ds.map V.str))) ⟨_,[],cs,t3,rfl,rfl,U2.refl _,by show(0:Int)<=_;omega,(cN.eg n4).more (by show(9:Int)<=9+0;decide),n4.at,n4.same _ _ ji⟩ ?_
  intro m σ H5
  refine ae.go ?_
  rintro fs ds t5 rfl rfl pm hfl cS hf5 vN
  have Lp:=cS.ub
  have K0:=cS.le
  have Rg:fs.length+ds.length=cs.length:=by rw[<-Jf];exact pm.length_eq
  have QT:∀x∈ds,bH most.toNat x:=fun x hx=>ok x (pm.subset (Ji _ hx))
  have LS:∀x∈fs,bH most.toNat x:=fun x hx=>ok x (pm.subset (Uc _ hx))
  have vV:eZ fs:=(fr.perm pm.symm).sub (List.sublist_append_left _ _)
  have Qj:(ds.map V.str).length=ds.length:=Ja _
  have B9:(fs.map V.str).length=fs.length:=Ja _
  have fin:∀{H':Hp},(ds=[]∨¬(fs.length:Int)<many)->Step b c H H' t t5 (13+fs.length)->H' fp=some (.lst (fs.map V.str))->Nx [some (.ref b),some (.int many),some (.int most),some (.ref l),some (.int mo),x5,x6,x7,some (.ref fp)] H':=fun{H'} hend aE hf'=>by
   refine nx _ _ ⟨fs,t5,_,rfl,fun z =>?_,hfl,vV,LS,aE.more (by omega),hf'⟩
   have hz:fs.length=0:=by rw[z];rfl
   rcases hend with h|h
   ·have:ds.length=0:=by rw[h];rfl
    omega
   ·omega
  refine⟨_,rfl,by show 0<=sizeLine;decide,fun p6 H6 n6 =>.inr ⟨_,_,Den.list (aK.of (n6.same _ _ vN)) (Den.strs _),Den.list (aK.of n6.at) (by unfold aB;rfl),oM (fun x hx=>(QT x hx).bin),rf,_,rfl,?_⟩⟩
  rw[iY]
  have A9:=n6.same _ _ vN
  have Hq:=n6.same _ _ hf5
  have jo:=cS.eg n6
  by_cases hds:ds=[]
  ·have e:(!ds.isEmpty)=false:=by rw[hds];rfl
   rw[e]
   exact bI (bI (fin (.inl hds) jo Hq))
  have e:(!ds.isEmpty)=true:=by cases ds with|nil=>exact absurd rfl hds|cons _ _=>rfl
  rw[e]
  have Oy:0<ds.length:=List.length_pos_iff.mpr hds
  refine bK ⟨_,rfl,_,_,rfl,.inl ⟨_,aK.of Hq,rfl⟩,_,rfl,_,_,rfl,rfl,_,rfl,fe (fun e2 =>?_) (fun e2=>fin (.inr fun z=>e2 (decide_eq_true (by rw[B9];exact z))) jo Hq)⟩
  have e2:(fs.length:Int)<many:=by have:=of_decide_eq_true e2;rw[B9] at this;exact this
  refine⟨fun σ' H'=>∃m',m'<ds.length/\_,fun _ _ h=>h,?_⟩
  refine⟨_,rfl,.inl ⟨rfl,_,aK.of Hq⟩,_,rfl,.inl ⟨rfl,_,aK.of A9⟩,_,rfl,_,rfl,_,_,rfl,.inl ⟨_,aK.of A9,rfl⟩,b,c,t5,_,rfl,jo.bx,by omega,by omega,by omega,by omega,fun a H7 a0 a1 jH =>?_⟩
  have P6:=jH.old A9 lb lc
  have Qd:=jH.old Hq fb fc
  have jH:=jo.trans jH
  obtain⟨x,hx⟩:∃x,ds[a.toNat]? = some x:=⟨_,Jd (by omega)⟩
  refine⟨l,_,a,_,rfl,rfl,P6,a0,by omega,by rw[Jk,hx];rfl,fun H8 c8 =>?_⟩
  have GJ:H8 fp=some (.lst (fs.map V.str)):=by rw[c8.ne (Ne.symm lf)];exact Qd
  have gR:=jH.AG c8 hl lb lc
  refine⟨fp,_,_,rfl,rfl,GJ,by rw[B9];omega,fun H9 c9 =>?_⟩
  refine⟨(ds.eraseIdx a.toNat).length,by rw[List.length_eraseIdx_of_lt (by omega)];omega,fs++[x],ds.eraseIdx a.toNat,_,rfl,rfl,?_,by rw[Jf];show((fs.length+1:Nat):Int)<=_;omega,(gR.AG c9 hf fb fc).more (by rw[Jf];show _<=(13:Int)+((fs.length+1:Nat):Int);omega),by rw[c9.at,Jl];rfl,by rw[c9.ne lf,c8.at,uT]⟩
  refine U2.trans ?_ pm
  rw[Ul]
  exact U2.append_left fs (wg hx).symm
 intro σ H5
 refine ae.go ?_
 rintro fs t5 x3 rfl qO hfl vV LS cS hf5
 exact⟨_,rfl,q fs fp H5 t5 qO hfl vV LS cS hf hf5⟩
end
def zo:Sp:=fun vs H Q _=>pW fun(b c:Addr) (t many:Int)=>vs=[.ref b,.int many]/\Bx H b c t/\0<=t/\t<1000000/\0<=many/\many<=26 /\
 ∀(xs:List Str) (l:Addr) (H':Hp) (t':Int),(xs.length:Int)=many->xs.Nodup->(∀x∈xs,x.length<=8/\∀ch∈x.cps.toList,ch<=122)->Step b c H H' t t' 300->H l=none->H' l=some (.lst (xs.map V.str))->Q (.ref l) H'
structure Lz (i:Nat)(x:Str):Prop extends sY i x where
 sm:∀ch∈x.cps.toList,ch<=122
section
variable {P:Program}{w:World}{K:Jb}{mg:Str->Option Value}{base:Heap}{f:Addr}{fd:FuncData}
theorem Ap (F:dj K "_law_names" "_law_names" (top gG) f fd)(T:Nm mg)(aD:Fn P w K mg base 1 "_law_take" ["_law_state", "_law_many"] qM):bW P w K mg base fI 2 f fd ["_law_state", "_law_many"] zo:=by
 refine F.ok d5 (fun vs H Q E h =>?_) (fun dZ A outer s H vs Q E hr h =>?_)
 ·obtain⟨b,c,t,many,rfl,_⟩:=h
  rfl
 unfold zo at h
 refine ae.el h _ ?_
 clear h
 rintro b c t many rfl bx t0 t1 m0 m1 q
 refine⟨_,(ah (aN (i:=2) d5.nd rfl (Or.inr rfl) bu)
  (ah (aN (i:=3) d5.nd rfl (Or.inl rfl) (eP ag))
  (ah (fH PassesOwn.never rfl (du rfl T.n_range (aa (pv 1) ag)) (av (i:=4) d5.nd rfl (Or.inl rfl)) (au (gK (vK K PySem.F.plainAttrs_list PySem.F.slot_list_append PySem.F.type_list_append ud (pv 3) (aa (aH b0 (vK K PySem.F.plainAttrs_str PySem.F.slot_str_join PySem.F.type_str_join (BL K) bu (aa (br rfl (aM (Nc:=["_law_j"]) (Fc:=["_law_letters", "_law_state"]) (js:=[2,0])) (du rfl T.n_range (aa (aP (aD.mono (by decide)) hr rfl (aa (pv 0) (aa ao ag))) ag)) (az (i:=0) (n:=1) (by decide)) (fun _ _ _ _ _=>(av (i:=0) (d4 ["_law_j", "_law_letters", "_law_state"]) rfl (Or.inl rfl))) (fun _ _ _ _ _=>aX) (fun _ _ _ _ _=>(cX (mF K) (pv 1) (aP (aD.mono (by decide)) hr rfl (aa (pv 2) (aa ao ag))) (fun _ _=>rfl)))) ag)) (cX (mF K) (pv 2) (pv 4) (fun _ _=>rfl))) ag)))))
  (au (aJ (pv 3)))))),?_⟩
 refine gn ⟨by show 0<=sizeLine;decide,fun l H2 n2=>gn ?_⟩
 have hl:H l=none:=n2.nn
 obtain⟨lb,lc⟩:=bx.aY n2.nn
 have bN:Step b c H H2 t t 0:=(Step.refl bx).eg n2
 refine⟨_,rfl,many,rfl,by omega,by omega,?_⟩
 refine mL (lo:=0) (n:=many.toNat) (fun i σ H'=>gO fun(xs:List Str) (t':Int) (x4:Option V) =>σ=[some (.ref b),some (.int many),some (.str MD),some (.ref l),x4]/\xs.length=i /\
  (∀(j:Nat) x,xs[j]? = some x->Lz j x)/\Step b c H H' t t' (10*i)/\H' l=some (.lst (xs.map V.str))) ⟨[],t,_,rfl,rfl,by simp,by simpa using bN,n2.at⟩ ?_ ?_
 ·intro i σ H3 hi
  refine ae.go ?_
  rintro xs t3 x4 rfl mq hx cN ji
  have Nw:=cN.ub
  have yF:=cN.le
  refine⟨_,rfl,.inl ⟨rfl,_,aK.of ji⟩,?_⟩
  refine⟨rfl,_,rfl,b,c,t3,8,rfl,cN.bx,by omega,by omega,by decide,by decide,fun m H4 m0 m1 jz =>?_⟩
  have zW:H4 l=some (.lst (xs.map V.str)):=jz.old ji lb lc
  have jz:=(cN.trans jz)
  refine⟨m,rfl,by omega,by omega,?_⟩
  refine bo (N:=m.toNat) (fun k ys H'=>cq fun(zs:List Str) (t':Int)=>ys=zs.map V.str/\zs.length=k/\(∀x∈zs,∃ch:Nat,x=⟨#[ch]⟩/\ch<=122)/\Step b c H H' t t' (10*i+1+k)/\H' l=some (.lst (xs.map V.str))) ⟨[],_,rfl,rfl,(fun _ h=>nomatch h),jz.more (by omega),zW⟩ ?_ ?_
  ·intro k ys H5 Nx hk hz_ nx
   refine ae.el hz_ _ ?_
   clear hz_
   rintro zs t5 rfl hzl hz cS vN
   have Lp:=cS.ub
   have K0:=cS.le
   refine⟨hk,by rw[Ja,hzl];exact Jt (show k<1000 by omega) (by decide),?_⟩
   rintro x H6 ⟨rfl,rfl⟩
   refine⟨_,rfl,_,rfl,b,c,t5,26,rfl,cS.bx,by omega,by omega,by decide,by decide,fun d H7 d0 d1 jH =>?_⟩
   refine .inr (.inr ⟨_,d,_,rfl,rfl,by decide +kernel,wQ d0 d1,nx _ _ ⟨zs++[⟨#[97+d.toNat]⟩],_,by rw[Jl];rfl,by rw[Jf,hzl];rfl,fun x hx =>?_,(cS.trans jH).more (by omega),jH.old vN lb lc⟩⟩)
   rcases Jh.mp hx with h|h
   ·exact hz x h
   ·exact⟨_,Jg.mp h,by omega⟩
  ·intro ys H5
   refine ae.go ?_
   rintro zs t5 rfl hzl hz cS vN
   refine⟨Je _,fun p hp=>⟨_,p,zs,rfl,rfl,aK.of ax,?_,?_⟩⟩
   ·rw[(lN fun x hx=>by obtain⟨k,e,_⟩:=hz x hx;exact⟨k,e⟩).2]
    show zs.length+zs.length*0<=16777216
    omega
   ·have hn:dX H5 p (.lst (zs.map V.str)) (upd H5 p (.lst (zs.map V.str))):=⟨hp,rfl⟩
    generalize upd H5 p (.lst (zs.map V.str))=H6 at hn ⊢
    have A9:=hn.same _ _ vN
    have jo:=cS.eg hn
    have Om:(Txt.join "" zs).length=zs.length:=by
     rw[str_len]
     rw[d8]
     exact(lN fun x hx=>by obtain⟨k,e,_⟩:=hz x hx;exact⟨k,e⟩).1
    have h0:0<=(0:Int)+i:=by omega
    have h1:(0:Int)+i<26:=by omega
    refine⟨_,rfl,_,rfl,.inr (.inr ⟨_,_,_,rfl,rfl,by decide +kernel,wQ h0 h1,.inr (.inl ⟨_,_,rfl,rfl,by rw[len_one,Om];exact sizeOk (by omega),l,_,_,rfl,rfl,A9,?_,fun H7 c7 =>?_⟩)⟩)⟩
    ·rw[Ja,mq];exact Jt (show i<1000 by omega) (by decide)
    ·refine⟨xs++[Txt.join "" zs++⟨#[97+((0:Int)+i).toNat]⟩],t5,_,rfl,by rw[Jf,mq];rfl,fun j y hy =>?_,?_,?_⟩
     ·by_cases hj:j<xs.length
      ·rw[J6 hj] at hy
       exact hx j y hy
      ·rw[Jz (by omega)] at hy
       have e:j-xs.length=0:=by
        have:=(Jx.mp hy).1
        simp at this
        omega
       rw[e] at hy
       cases hy
       have ej:j=i:=by omega
       subst ej
       refine⟨⟨by rw[cL,len_one];omega,?_⟩,fun ch hc =>?_⟩
       rotate_left
       ·rw[bh] at hc
        rcases Jh.mp hc with hc|hc
        ·rw[d8] at hc
         refine ae.el (List.mem_flatMap.mp hc) _ ?_
         rintro u hu hc
         refine ae.el (hz u hu) _ ?_
         rintro k rfl hk
         have:ch∈[k]:=hc
         rw[Jg.mp this];exact hk
        ·have:ch∈[97+((0:Int)+j).toNat]:=hc
         rw[Jg.mp this];omega
       rw[bh,List.getLast?_append]
       have:((0:Int)+j).toNat=j:=by omega
       rw[this]
       rfl
     ·exact(jo.AG c7 hl lb lc).more (by omega)
     ·rw[c7.at,Jl]
      rfl
 ·intro σ H3
  refine ae.go ?_
  rintro xs t3 x4 rfl mq hx cN ji
  exact⟨_,rfl,q xs l H3 t3 (by omega) (sY.nodup fun i x h=>(hx i x h).tosY) (fun x rK=>by obtain⟨j,hj⟩:=U3.mp rK;exact⟨(hx j x hj).le,(hx j x hj).sm⟩) (cN.more (by omega)) hl ji⟩
end
open PyProof.Rows
structure eS (bk:List (Str×Str)):Prop where
 le:bk.length<=16
 nm:(bk.map (·.1)).Nodup
 cd:∀q∈bk,bH 12 q.2
 nl:∀q∈bk,q.1.length<=8
 sm:∀q∈bk,∀ch∈q.1.cps.toList,ch<=122
theorem dE {x:Str}(p:Nat):sg (Txt.slice x (some (p:Int)) none)=(sg x).drop p:=by
 have key:∀p:Nat,p<=x.length->sg (Txt.slice x (some (p:Int)) none)=(sg x).drop p:=fun p h=>by
  rw[PyProof.Rows.slice_from_eq (b:=(x.length:Int)) (by omega) (by omega) rfl]
  show(((sg x).drop (p:Int).toNat).take ((x.length:Int)-p).toNat).toArray.toList=_
  rw[List.toList_toArray,Yi]
  ·rfl
  ·rw[Ui,<-str_len];omega
 by_cases h:p<=x.length
 ·exact key p h
 ·have e:Txt.slice x (some (p:Int)) none=Txt.slice x (some ((x.length:Nat):Int)) none:=by
   unfold Txt.slice
   have:PySem.Builtin.Str.strSliceIndices (some (p:Int)) none 1 x.length=PySem.Builtin.Str.strSliceIndices (some ((x.length:Nat):Int)) none 1 x.length:=by
    unfold PySem.Builtin.Str.strSliceIndices
    dsimp only
    congr 1
    all_goals omega
   rw[this]
  rw[e,key _ (Je _),List.drop_of_length_le (Yu (str_len x).symm),List.drop_of_length_le (by have:=str_len x;show(sg x).length<=p;change x.length=(sg x).length at this;omega)]
theorem bR {α:Type}[DecidableEq α]:∀{l m:List α},l.Nodup->(∀x∈l,x∈m)->l.length<=m.length
 | [],_,_,_=>Um _
 | a::l,m,nd,h=>by
  obtain⟨na,Bq⟩:=U1.mp nd
  have hm:=h a Jq
  have ih:=bR (l:=l) (m:=m.erase a) Bq fun x hx=>by
   have qO:x≠a:=fun z=>na (z▸hx)
   exact(List.mem_erase_of_ne qO).mpr (h x (Jn _ hx))
  rw[List.length_erase_of_mem hm] at ih
  have:0<m.length:=List.length_pos_of_mem hm
  rw[J0]
  omega
theorem iU {kvs:List (Key×V)}{k:Key}{v:V}(h:aW kvs k=some v):(k,v)∈kvs:=by
 induction kvs with
 | nil=>cases h
 | cons p r ih=>
  by_cases e:p.1=k
  ·rw[ck e] at h
   cases h
   rw[<-e];exact Jq
  ·rw[bU e] at h
   exact Jn _ (ih h)
theorem qq {kvs:List (Key×V)}{k:Key}{v:V}(nd:(kvs.map (·.1)).Nodup)(h:(k,v)∈kvs):aW kvs k=some v:=by
 induction kvs with
 | nil=>cases h
 | cons p r ih=>
  rw[Uj,U1] at nd
  rcases Uh.mp h with rfl|h
  ·exact ck rfl
  ·rw[bU fun z=>nd.1 (by rw[z];exact U5 (f:=(·.1)) h)]
   exact ih nd.2 h
noncomputable def vL (x:Str):Bool:=x.cps.all (· < 128)
mutual
noncomputable def Pz:PyData->Bool
 | .none | .bool _=>true
 | .int i=>decide (i.natAbs<10^40)
 | .str x=>vL x
 | .list ds | .tuple ds=>Aa ds
 | .dict _=>false
noncomputable def Aa:List PyData->Bool
 | []=>true
 | d::ds=>Pz d&&Aa ds
end
theorem vG (ts:List Str):(listText ts).length<=piled ts+2:=by
 unfold listText
 rw[strLen_append]
 have e:(((("]" : String):Str))).length=1:=rfl
 rw[e]
 cases ts with
 | nil=>exact Je _
 | cons t ts=>
  have q:=textFrom_length_pos ts 1 ((("[" : String):Str)++((if 0>0 then ", " else "" : String):Str)++t) (by decide)
  show(textFrom 1 _ ts).length+1<=_
  rw[q,strLen_append,strLen_append,piled_cons]
  have e1:(((("[" : String):Str))).length=1:=rfl
  have e2:((((if 0>0 then ", " else "" : String):Str))).length=0:=rfl
  rw[e1,e2]
  omega
theorem vj (ts:List Str):(tupleText ts).length<=piled ts+3:=by
 unfold tupleText
 rw[strLen_append,strLen_append]
 have e1:((("(" : String):Str)).length=1:=rfl
 have e3:(((if ts.length==1 then ",)" else ")" : String):Str)).length<=2:=by split<;>decide
 have e2:(Str.join ", " ts).length<=piled ts:=by
  cases ts with
  | nil=>exact Je _
  | cons t ts=>have:=join_length_add (t::ts) (by simp);omega
 rw[e1]
 omega
theorem zx {i:Int}(h:i.natAbs<10^40):(Str.ofString (toString i)).length<=41:=by
 cases i with
 | ofNat n=>
  have:=PyProof.Rows.toString_length_le (v:=Int.ofNat n) (by simp) (k:=40) (by decide) (by
   have h:n<10^40:=h
   show((n:Nat):Int)<10^40
   exact_mod_cast h)
  omega
 | negSucc n=>
  have h:n+1<10^40:=h
  have:=PyProof.Rows.toString_length_le (v:=Int.ofNat (n+1)) (by show(0:Int)<=((n+1:Nat):Int);omega) (k:=40) (by decide) (by
   show((n+1:Nat):Int)<10^40
   exact_mod_cast h)
  have e:toString (Int.negSucc n) = "-" ++ toString (Int.ofNat (n+1)):=rfl
  rw[e]
  have e2:∀a b:String,(Str.ofString (a++b)).length=(Str.ofString a).length+(Str.ofString b).length:=fun a b=>by
   simp[PyProof.Rows.ofString_length]
  rw[e2]
  have e3:(Str.ofString "-").length=1:=rfl
  omega
mutual
theorem lL:∀(d:PyData),Pz d=true->d.shown.length<=44*d.weight+42/\d.showable=true/\d.canLay0=true
 | .none,_=>⟨by decide +kernel,rfl,rfl⟩
 | .bool b,_=>⟨by cases b<;>decide +kernel,rfl,rfl⟩
 | .int i,h=>by
  have h:i.natAbs<10^40:=by simpa [Pz] using h
  refine⟨?_,?_,rfl⟩
  ·have:=zx h
   simp only[PyData.shown]
   show(Str.ofString (toString i)).length<=_
   omega
  ·simp only[PyData.showable,decide_eq_true_eq]
   by_cases z:i.natAbs=0
   ·rw[z];decide
   ·exact(Nat.log2_lt z).mpr (Jt h (by decide))
 | .str x,h=>by
  have hx:∀c∈x.cps.toList,c<128:=fun c hc=>by
   have h:vL x=true:=by simpa only [Pz] using h
   unfold vL at h
   rw[Array.all_eq_true_iff_forall_mem] at h
   have:=h c (by simpa using hc)
   simpa using this
  refine⟨?_,rfl,?_⟩
  ·have:=StrLaws.reprText_len x fun c hc=>Jt (hx c hc) (by decide)
   simp only[PyData.shown,PyData.weight]
   have e:x.cps.size=x.length:=rfl
   omega
  ·exact(Sh.str (n:=0) (iI fun ch hc=>by have:=hx ch hc;omega)).1
 | .list ds,h=>by
  obtain⟨h1,h2,h3⟩:=jf ds (by simpa only [Pz] using h)
  refine⟨?_,by simpa only [PyData.showable] using h2,by simpa only [PyData.canLay0] using h3⟩
  have:=vG (PyData.shownAll ds)
  simp only[PyData.shown,PyData.weight]
  omega
 | .tuple ds,h=>by
  obtain⟨h1,h2,h3⟩:=jf ds (by simpa only [Pz] using h)
  refine⟨?_,by simpa only [PyData.showable] using h2,by simpa only [PyData.canLay0] using h3⟩
  have:=vj (PyData.shownAll ds)
  simp only[PyData.shown,PyData.weight]
  omega
 | .dict _,h=>by simp[Pz] at h
theorem jf:∀(ds:List PyData),Aa ds=true->piled (PyData.shownAll ds)<=44*PyData.weightAll ds/\PyData.showableAll ds=true/\PyData.canLayAll0 ds=true
 | [],_=>⟨Je _,rfl,rfl⟩
 | d::ds,h=>by
  simp only[Aa,Uv] at h
  refine ae.el (lL d h.1) _ ?_
  rintro a1 a2 a3
  refine ae.el (jf ds h.2) _ ?_
  rintro b1 b2 b3
  refine⟨?_,by simp only[PyData.showableAll,a2,b2];rfl,by simp only[PyData.canLayAll0,a3,b3];rfl⟩
  simp only[PyData.shownAll,PyData.weightAll,piled_cons]
  omega
end
theorem iH {ds:List PyData}:Aa ds=true ↔ ∀d∈ds,Pz d=true:=by
 induction ds with
 | nil=>simp[Aa]
 | cons d ds ih=>simp[Aa,ih]
theorem nN {m:Nat}:∀{ds:List PyData},(∀e∈ds,e.depth<=m)->PyData.depthAll ds<=m
 | [],_=>by simp[PyData.depthAll]
 | d::ds,h=>by
  have:=nN (m:=m) (ds:=ds) fun e he=>h e (Jn _ he)
  have:=h d Jq
  simp only[PyData.depthAll]
  omega
structure Gd (w dp:Nat)(d:PyData):Prop where
 pz:Pz d=true
 wt:d.weight<=w
 dp:d.depth<=dp
theorem Gd.mono {w dp w' Gj:Nat}{d:PyData}(h:Gd w dp d)(hw:w<=w')(hd:dp<=Gj):Gd w' Gj d:=⟨h.pz,Jr h.wt hw,Jr h.dp hd⟩
theorem xm (xs ys:List PyData):PyData.weightAll (xs++ys)=PyData.weightAll xs+PyData.weightAll ys:=by
 induction xs with
 | nil=>simp[PyData.weightAll]
 | cons x xs ih=>rw[List.cons_append];simp only[PyData.weightAll,ih];omega
structure Gs (w dp:Nat)(ds:List PyData):Prop where
 pz:∀d∈ds,Pz d=true
 wt:PyData.weightAll ds<=w
 dp:∀d∈ds,d.depth<=dp
theorem Gs.list {w dp:Nat}{ds:List PyData}(h:Gs w dp ds):Gd w (dp+1) (.list ds):=⟨by simp only[Pz];exact iH.mpr h.pz,by simp only[PyData.weight];exact h.wt,by simp only[PyData.depth];have:=nN h.dp;omega⟩
theorem Gs.tuple {w dp:Nat}{ds:List PyData}(h:Gs w dp ds):Gd w (dp+1) (.tuple ds):=⟨by simp only[Pz];exact iH.mpr h.pz,by simp only[PyData.weight];exact h.wt,by simp only[PyData.depth];have:=nN h.dp;omega⟩
theorem Gs.mono {w dp w' Gj:Nat}{ds:List PyData}(h:Gs w dp ds)(hw:w<=w')(hd:dp<=Gj):Gs w' Gj ds:=⟨h.pz,Jr h.wt hw,fun d m=>Jr (h.dp d m) hd⟩
theorem Gs.app {w dp w':Nat}{xs ys:List PyData}(h:Gs w dp xs)(g:Gs w' dp ys):Gs (w+w') dp (xs++ys):=
 ⟨fun d m=>(Jh.mp m).elim (h.pz d) (g.pz d),by rw[xm];have:=h.wt;have:=g.wt;omega,fun d m=>(Jh.mp m).elim (h.dp d) (g.dp d)⟩
theorem Gs.one {w dp:Nat}{d:PyData}(h:Gd w dp d):Gs (w+1) dp [d]:=
 ⟨fun e m=>by rw[Jg.mp m];exact h.pz,by have:=h.wt;simp only[PyData.weightAll];omega,fun e m=>by rw[Jg.mp m];exact h.dp⟩
theorem Gs.cons {w dp w':Nat}{d:PyData}{ds:List PyData}(h:Gd w dp d)(g:Gs w' dp ds):Gs (w+1+w') dp (d::ds):=(Gs.one h).app g
theorem Gs.nil {dp:Nat}:Gs 0 dp []:=⟨(fun d m=>nomatch m),Je _,(fun d m=>nomatch m)⟩
theorem Gd.str {w dp:Nat}{x:Str}(h:vL x=true)(hw:x.length<=w):Gd w dp (.str x):=⟨by simpa only [Pz] using h,by simp only[PyData.weight];exact hw,by simp[PyData.depth]⟩
theorem Gd.small {w dp:Nat}{d:PyData}(h:d = .none∨∃b,d = .bool b)(hw:10<=w):Gd w dp d:=by
 rcases h with rfl|⟨b,rfl⟩
 ·exact⟨rfl,Jr (by decide) hw,by simp[PyData.depth]⟩
 ·exact⟨rfl,Jr (by cases b<;>decide) hw,by simp[PyData.depth]⟩
noncomputable abbrev dS:Str := "01"
noncomputable def kc (x y:Str):Bool:=decide (V.str (Txt.stripChars x y)=V.str (Str.ofString ""))
theorem split_not {g:Nat->Bool}:∀(l:List Nat),l.all g=false->∃p c r,l=p++c::r/\(∀a∈p,g a=true)/\g c=false
 | [],h=>by cases h
 | a::l,h=>by
  cases ha:g a with
  | false=>exact⟨[],a,l,rfl,(fun _ z=>nomatch z),ha⟩
  | true=>
   rw[List.all_cons,ha,Bool.true_and] at h
   refine ae.el (split_not l h) _ ?_
   rintro p c r rfl hp hc
   refine⟨a::p,c,r,rfl,fun x hx =>?_,hc⟩
   rcases Uh.mp hx with rfl|hx
   ·exact ha
   ·exact hp x hx
theorem lF (x y:Str):kc x y=x.cps.toList.all y.cps.contains:=by
 unfold kc Txt.stripChars
 rw[PyProof.Rows.stripBy_eq]
 generalize y.cps.contains=g
 unfold stripHi stripLo
 simp only[if_true]
 have sub:∀i j:Nat,decide (V.str (Builtin.Str.strSub x i j)=V.str (Str.ofString ""))=decide (min j x.length<=i):=fun i j=>by
  congr 1
  refine propext ⟨fun h =>?_,fun h =>?_⟩
  ·injection h with h
   have h:=congrArg (fun s:Str=>s.cps.size) h
   have e0:(Str.ofString "").cps.size=0:=rfl
   simp only[Builtin.Str.strSub,Array.size_extract,e0] at h
   have:x.cps.size=x.length:=rfl
   omega
  ·congr 1
   unfold Builtin.Str.strSub
   have e:x.cps.extract i j = #[]:=by
    apply Array.eq_empty_of_size_eq_zero
    rw[Array.size_extract]
    have:x.cps.size=x.length:=rfl
    omega
   rw[e]
   rfl
 rw[sub]
 have hlen:x.length=x.cps.toList.length:=by simp[Str.length]
 rw[hlen]
 generalize x.cps.toList=l
 by_cases h:l.all g=true
 ·rw[h]
  have e:l.takeWhile g=l:=by
   clear sub hlen
   induction l with
   | nil=>rfl
   | cons a l ih=>
    rw[List.all_cons,Uv] at h
    rw[List.takeWhile_cons,if_pos h.1,ih h.2]
  rw[e]
  exact decide_eq_true (by omega)
 ·have hf:l.all g=false:=by simpa using h
  rw[hf]
  apply decide_eq_false
  intro z
  refine ae.el (split_not l hf) _ ?_
  rintro p c r rfl hp hc
  have e:(p++c::r).takeWhile g=p:=by
   clear z hlen sub h hf
   induction p with
   | nil=>rw[List.nil_append,List.takeWhile_cons,hc];rfl
   | cons a p ih=>
    rw[List.cons_append,List.takeWhile_cons,if_pos (hp a Jq),ih fun x hx=>hp x (Jn _ hx)]
  have ed:(p++c::r).drop p.length=c::r:=List.drop_left
  rw[e,ed] at z
  have hl:(p++c::r).length=p.length+(r.length+1):=by rw[Jf,J0]
  have tl:((c::r).reverse.takeWhile g).length<=r.length:=by
   rw[List.reverse_cons]
   have:((r.reverse++[c]).takeWhile g).length<=r.reverse.length:=by
    rw[List.takeWhile_append]
    split
    ·rw[Jf]
     have e:[c].takeWhile g=[]:=by simp[List.takeWhile,hc]
     rw[e];simp
    ·exact(List.takeWhile_prefix g).length_le
   rw[List.length_reverse] at this
   exact this
  omega
theorem xO {x:Str}(h:iB x):kc x dS=true:=by
 rw[lF,Yh]
 intro c hc
 rcases h c hc with rfl|rfl<;>decide +kernel
theorem ye {x:Str}(h:kc x dS=true):iB x:=by
 rw[lF,Yh] at h
 intro c hc
 have:=h c hc
 have e:dS.cps = #[48,49]:=by decide +kernel
 rw[e] at this
 simpa using this
def oC:Sp:=fun vs H Q _=>∃x y:Str,vs=[.str x,.str y]/\x.length<=1000000/\Q (.bl (kc x y)) H
def cK (K:Jb)(A:PyData->Prop):Sp:=fun vs H Q _=>cq fun(v:V) (d:PyData)=>vs=[v]/\Den K H d v/\Pz d=true/\d.weight<=1000000/\∀b H',(b=true↔A d)->aj H H'->Q (.bl b) H'
def pe (d:PyData):Prop:=∃x,d = .str x/\iB x/\x ≠ ""
def xo (d:PyData):Prop:=∃n,d = .int n
def sZ (d:PyData):Prop:=cq fun(x:Str) (n:Nat)=>d = .tuple [.str x,.int n]/\iB x/\x ≠ ""
theorem jO {d:PyData}:lO d "str" = true ↔ ∃x,d = .str x:=by
 cases d with
 | str x=>exact⟨fun _=>⟨x,rfl⟩,fun _=>rfl⟩
 | none=>exact⟨(fun h=>absurd h (by decide)),fun⟨x,e⟩=>nomatch e⟩
 | bool b=>exact⟨(fun h=>absurd (show false=true from h) (by decide)),fun⟨x,e⟩=>nomatch e⟩
 | int i=>exact⟨(fun h=>absurd (show false=true from h) (by decide)),fun⟨x,e⟩=>nomatch e⟩
 | list i=>exact⟨(fun h=>absurd (show false=true from h) (by decide)),fun⟨x,e⟩=>nomatch e⟩
 | tuple i=>exact⟨(fun h=>absurd (show false=true from h) (by decide)),fun⟨x,e⟩=>nomatch e⟩
 | dict i=>exact⟨(fun h=>absurd (show false=true from h) (by decide)),fun⟨x,e⟩=>nomatch e⟩
theorem jX {d:PyData}:lO d "tuple" = true ↔ ∃ds,d = .tuple ds:=by
 cases d with
 | tuple x=>exact⟨fun _=>⟨x,rfl⟩,fun _=>rfl⟩
 | none=>exact⟨(fun h=>absurd h (by decide)),fun⟨x,e⟩=>nomatch e⟩
 | bool b=>exact⟨(fun h=>absurd (show false=true from h) (by decide)),fun⟨x,e⟩=>nomatch e⟩
 | int i=>exact⟨(fun h=>absurd (show false=true from h) (by decide)),fun⟨x,e⟩=>nomatch e⟩
 | list i=>exact⟨(fun h=>absurd (show false=true from h) (by decide)),fun⟨x,e⟩=>nomatch e⟩
 | str i=>exact⟨(fun h=>absurd (show false=true from h) (by decide)),fun⟨x,e⟩=>nomatch e⟩
 | dict i=>exact⟨(fun h=>absurd (show false=true from h) (by decide)),fun⟨x,e⟩=>nomatch e⟩
theorem iQ {d:PyData}:(lO d "int" = true/\lO d "bool" = false)↔xo d:=by
 cases d with
 | int x=>exact⟨fun _=>⟨x,rfl⟩,fun _=>⟨rfl,rfl⟩⟩
 | none=>exact⟨(fun h=>absurd h.1 (by decide)),fun⟨x,e⟩=>nomatch e⟩
 | bool b=>exact⟨(fun h=>absurd (show true=false from h.2) (by decide)),fun⟨x,e⟩=>nomatch e⟩
 | tuple i=>exact⟨(fun h=>absurd (show false=true from h.1) (by decide)),fun⟨x,e⟩=>nomatch e⟩
 | list i=>exact⟨(fun h=>absurd (show false=true from h.1) (by decide)),fun⟨x,e⟩=>nomatch e⟩
 | str i=>exact⟨(fun h=>absurd (show false=true from h.1) (by decide)),fun⟨x,e⟩=>nomatch e⟩
 | dict i=>exact⟨(fun h=>absurd (show false=true from h.1) (by decide)),fun⟨x,e⟩=>nomatch e⟩
theorem rN (x:Str):decide (V.str x=V.str (Str.ofString ""))=decide (x = ""):=decide_eq_decide.mpr ⟨fun h=>(by injection h),fun h=>by rw[h]⟩
theorem xg {K:Jb}{H:Hp}{ds:List PyData}{vs:List V}(h:aB K H ds vs)(h2:ds.length=2):pW fun(d0 d1:PyData) (v0 v1:V)=>ds=[d0,d1]/\vs=[v0,v1]/\Den K H d0 v0/\Den K H d1 v1:=by
 obtain⟨d0,d1,rfl⟩:∃d0 d1,ds=[d0,d1]:=by
  cases ds with
  | nil=>cases h2
  | cons a r=>
   cases r with
   | nil=>cases h2
   | cons b r=>
    cases r with
    | nil=>exact⟨a,b,rfl⟩
    | cons c r=>simp at h2
 unfold aB at h
 obtain⟨v0,r0,rfl,k0,h⟩:=h
 unfold aB at h
 obtain⟨v1,r1,rfl,k1,h⟩:=h
 unfold aB at h
 subst h
 exact⟨d0,d1,v0,v1,rfl,rfl,k0,k1⟩
theorem tu {d0 d1:PyData}(h:Pz (.tuple [d0,d1])=true):Pz d0=true/\Pz d1=true:=by
 simp only[Pz] at h
 exact⟨iH.mp h d0 (by simp),iH.mp h d1 (by simp)⟩
theorem l6:∀c,c<128->Txt.contains dS ⟨#[c]⟩=(c==48||c==49):=by decide +kernel
theorem da {d0 d1:PyData}:sZ (.tuple [d0,d1])↔pe d0/\xo d1/\∃n:Nat,d1 = .int n:=by
 refine⟨fun⟨x,n,e,hb,hx⟩=>?_,fun⟨⟨x,e0,hb,hx⟩,_,n,e1⟩=>⟨x,n,by rw[e0,e1],hb,hx⟩⟩
 injection e with e
 injection e with e0 e
 injection e with e1 _
 exact⟨⟨x,e0,hb,hx⟩,⟨n,e1⟩,n,e1⟩
theorem oq {d:PyData}(h:sZ d):∃d0 d1,d = .tuple [d0,d1]:=by
 obtain⟨x,n,e,_⟩:=h
 exact⟨_,_,e⟩
section
variable {P:Program}{w:World}{K:Jb}{mg:Str->Option Value}{base:Heap}{f:Addr}{fd:FuncData}{t3:Tok}
theorem rM:aO ["text", "signs"] ["text", "signs"] (aA (top i7)):=⟨rfl,rfl,rfl,by decide +kernel,rfl,by decide +kernel,by decide +kernel⟩
theorem zE (F:dj K "made_of" "made_of" (top i7) f fd)(T:Nm mg):bW P w K mg base fI 1 f fd ["text", "signs"] oC:=by
 refine F.ok rM (fun vs H Q E h =>?_) (fun dZ A outer s H vs Q E hr h =>?_)
 ·obtain⟨x,y,rfl,_⟩:=h
  rfl
 unfold oC at h
 refine ae.el h _ ?_
 clear h
 rintro x y rfl hx q
 have eK:=hr.units
 refine⟨_,(au (aJ (fG (ur K eK) (vK K PySem.F.plainAttrs_str PySem.F.slot_str_strip PySem.F.type_str_strip uZ (pv 0) (aa (pv 1) ag)) bu (aL _)))),?_⟩
 exact⟨_,rfl,rfl,_,rfl,x,y,rfl,rfl,sizeOk (by omega),.inl ⟨rfl,q⟩⟩
theorem qZ:aO ["thing"] ["thing"] (aA (top jm)):=⟨rfl,rfl,rfl,by decide +kernel,rfl,by decide +kernel,by decide +kernel⟩
theorem Cs (F:dj K "is_code" "is_code" (top jm) f fd)(T:Nm mg)(nK:mg "SIGNS" = some (.str dS t3))(uO:Fn P w K mg base 1 "made_of" ["text", "signs"] oC):bW P w K mg base fI 2 f fd ["thing"] (cK K pe):=by
 refine F.ok qZ (fun vs H Q E h =>?_) (fun dZ A outer s H vs Q E hr h =>?_)
 ·obtain⟨v,d,rfl,_⟩:=h
  rfl
 unfold cK at h
 refine ae.el h _ ?_
 clear h
 rintro v d rfl hd pz hw q
 have eK:=hr.units
 refine⟨_,(au (aJ (iX (aw (kP K) rfl T.n_isinstance (by rfl) (aa (pv 0) (aa (cZ rfl T.n_str (by rfl) (v := .ty "str") rfl) ag))) (iX (fG (tE K eK) (pv 0) bu (aL _)) (oS (aP (uO.mono (by decide)) hr rfl (aa (pv 0) (aa (zi rfl nK) ag)))))))),?_⟩
 refine⟨_,rfl,.inl ⟨_, "str",d,_,rfl,hd,(kb K d).2.2.1,_,rfl,?_⟩⟩
 by_cases hs:lO d "str" = true
 ·obtain⟨x,rfl⟩:=jO.mp hs
  unfold Den at hd
  subst hd
  have mq:x.length<=1000000:=hw
  have iff:pe (.str x)↔iB x/\x ≠ "":=⟨fun⟨y,e,h1,h2⟩=>by injection e with e;subst e;exact⟨h1,h2⟩,fun h=>⟨x,rfl,h.1,h.2⟩⟩
  refine bK ⟨_,rfl,.inl ⟨rfl,_,rfl,?_⟩⟩
  rw[rN]
  by_cases hx:x = ""
  ·rw[decide_eq_true hx]
   exact bI (q false H ⟨(fun z=>nomatch z),fun z=>absurd hx (iff.mp z).2⟩ (aj.refl _))
  ·rw[decide_eq_false hx]
   refine bK ⟨_,rfl,x,_,rfl,mq,q _ H ?_ (aj.refl _)⟩
   rw[iff]
   exact⟨fun z=>⟨ye z,hx⟩,fun z=>xO z.1⟩
 ·rw[Ur.mpr hs]
  exact bI (q false H ⟨(fun z=>nomatch z),fun⟨x,e,_⟩=>absurd (jO.mpr ⟨x,e⟩) hs⟩ (aj.refl _))
theorem nD:aO ["thing"] ["thing"] (aA (top fU)):=⟨rfl,rfl,rfl,by decide +kernel,rfl,by decide +kernel,by decide +kernel⟩
theorem Ci (F:dj K "is_number" "is_number" (top fU) f fd)(T:Nm mg):bW P w K mg base fI 1 f fd ["thing"] (cK K xo):=by
 refine F.ok nD (fun vs H Q E h =>?_) (fun dZ A outer s H vs Q E hr h =>?_)
 ·obtain⟨v,d,rfl,_⟩:=h
  rfl
 unfold cK at h
 refine ae.el h _ ?_
 clear h
 rintro v d rfl hv pz hw q
 refine⟨_,(au (aJ (iX (aw (kP K) rfl T.n_isinstance (by rfl) (aa (pv 0) (aa (cZ rfl T.n_int (by rfl) (v := .ty "int") rfl) ag))) (oS (DT (aw (kP K) rfl T.n_isinstance (by rfl) (aa (pv 0) (aa (cZ rfl T.n_bool (by rfl) (v := .ty "bool") rfl) ag)))))))),?_⟩
 refine⟨_,rfl,.inl ⟨v, "int",d,lO d "int",rfl,hv,(kb K d).2.1,_,rfl,?_⟩⟩
 cases e:lO d "int" with
 | false=>exact bI (q false H ⟨(fun z=>nomatch z),fun z=>by rw[(iQ.mpr z).1] at e;cases e⟩ (aj.refl _))
 | true=>
  refine bK ⟨_,rfl,.inl ⟨v, "bool",d,lO d "bool",rfl,hv,(kb K d).1,_,rfl,q _ H ?_ (aj.refl _)⟩⟩
  rw[<-iQ,e]
  cases lO d "bool" with
  | false=>exact⟨fun _=>⟨rfl,rfl⟩,fun _=>rfl⟩
  | true=>exact⟨(fun z=>nomatch z),fun z=>nomatch z.2⟩
theorem oh:aO ["thing"] ["thing"] (aA (top fW)):=⟨rfl,rfl,rfl,by decide +kernel,rfl,by decide +kernel,by decide +kernel⟩
theorem Hs (F:dj K "is_ranked" "is_ranked" (top fW) f fd)(T:Nm mg)(vz:Fn P w K mg base 2 "is_code" ["thing"] (cK K pe))(qj:Fn P w K mg base 1 "is_number" ["thing"] (cK K xo)):bW P w K mg base fI 3 f fd ["thing"] (cK K sZ):=by
 refine F.ok oh (fun vs H Q E h =>?_) (fun dZ A outer s H vs Q E hr h =>?_)
 ·obtain⟨v,d,rfl,_⟩:=h
  rfl
 unfold cK at h
 refine ae.el h _ ?_
 clear h
 rintro v d rfl hv pz hw q
 have eK:=hr.units
 refine⟨_,(ah (bS (PW.pt (fJ (dU (cH (aw (kP K) rfl T.n_isinstance (by rfl) (aa (pv 0) (aa (cZ rfl T.n_tuple (by rfl) (v := .ty "tuple") rfl) ag))))) (gh (aI (tE K eK) (aw (dy K) rfl T.n_len (by rfl) (aa (pv 0) ag)) ao (aL _))))) (au (aJ dk)) aV)
  (au (aJ (iX (aP (vz.mono (by decide)) hr rfl (aa (cX (mF K) (pv 0) ao (fun _ _=>rfl)) ag)) (iX (aP (qj.mono (by decide)) hr rfl (aa (cX (mF K) (pv 0) ao (fun _ _=>rfl)) ag)) (oS (fG tW (cX (mF K) (pv 0) ao (fun _ _=>rfl)) ao (aL _)))))))),?_⟩
 have no:∀{H'},¬sZ d->aj H H'->Q (.bl false) H':=fun h s=>q false _ ⟨(fun z=>nomatch z),fun z=>absurd z h⟩ s
 refine⟨_,rfl,.inl ⟨v, "tuple",d,_,rfl,hv,(kb K d).2.2.2.2,_,rfl,?_⟩⟩
 by_cases ht:lO d "tuple" = true
 ·obtain⟨ds,rfl⟩:=jX.mp ht
  rw[ht]
  unfold Den at hv
  obtain⟨p,vs,rfl,hp,hds⟩:=hv
  have Bf:vs.length=ds.length:=hds.len
  refine bI ⟨_,rfl,_,_,rfl,.inr ⟨_,hp,rfl⟩,.inl ⟨rfl,_,rfl,?_⟩⟩
  by_cases h2:ds.length=2
  ·rw[show decide (V.int (vs.length:Nat)=V.int 2)=true by rw[Bf,h2];decide]
   refine bI ?_
   refine ae.el (xg hds h2) _ ?_
   clear hds
   rintro d0 d1 v0 v1 rfl rfl k0 k1
   obtain⟨pz0,pz1⟩:=tu pz
   have hw:PyData.weight d0+1+(PyData.weight d1+1+0)<=1000000:=by simpa only [PyData.weight,PyData.weightAll] using hw
   refine⟨_,rfl,.inr (.inl ⟨p,_,0,_,rfl,rfl,hp,rfl,v0,d0,rfl,k0,pz0,by omega,fun b1 H1 i1 s1=>⟨_,rfl,fe (fun c1 =>?_) (fun c1 =>?_)⟩⟩)⟩
   ·refine⟨_,rfl,.inr (.inl ⟨p,_,1,_,rfl,rfl,s1.jd hp,rfl,v1,d1,rfl,k1.same s1,pz1,by omega,fun b2 H2 i2 s2=>⟨_,rfl,fe (fun c2 =>?_) (fun c2 =>?_)⟩⟩)⟩
    ·obtain⟨n,rfl⟩:=i2.mp c2
     unfold Den at k1
     subst k1
     refine⟨_,rfl,.inr (.inl ⟨p,_,1,_,rfl,rfl,(s1.trans s2).jd hp,rfl,_,_,rfl,rfl,q _ _ ?_ (s1.trans s2)⟩)⟩
     rw[da,decide_eq_true_iff]
     refine⟨fun h=>⟨i1.mp c1,i2.mp c2,n.toNat,by congr 1;omega⟩,fun⟨_,_,m,e⟩=>?_⟩
     injection e with e
     show(0:Int)<=n
     omega
    ·exact no (fun z=>c2 (i2.mpr (da.mp z).2.1)) (s1.trans s2)
   ·exact no (fun z=>c1 (i1.mpr (da.mp z).1)) s1
  ·rw[show decide (V.int (vs.length:Nat)=V.int 2)=false by rw[Bf];exact decide_eq_false fun z=>h2 (by injection z with z;omega)]
   refine bK (no (fun z =>?_) (aj.refl _))
   obtain⟨d0,d1,e⟩:=oq z
   injection e with e
   exact h2 (by rw[e];rfl)
 ·rw[Ur.mpr ht]
  refine bK (bK (no (fun z =>?_) (aj.refl _)))
  obtain⟨d0,d1,e⟩:=oq z
  exact ht (jX.mpr ⟨_,e⟩)
theorem kD:aO ["_law_thing"] ["_law_thing"] (aA (top eU)):=⟨rfl,rfl,rfl,by decide +kernel,rfl,by decide +kernel,by decide +kernel⟩
theorem Cp (F:dj K "_law_is_pair" "_law_is_pair" (top eU) f fd)(T:Nm mg):bW P w K mg base fI 1 f fd ["_law_thing"] (cK K sZ):=by
 refine F.ok kD (fun vs H Q E h =>?_) (fun dZ A outer s H vs Q E hr h =>?_)
 ·obtain⟨v,d,rfl,_⟩:=h
  rfl
 unfold cK at h
 refine ae.el h _ ?_
 clear h
 rintro v d rfl hv pz hw q
 have eK:=hr.units
 have hu:=jB hr
 refine⟨_,(ah (bS (PW.pt (fJ (dU (cH (aw (kP K) rfl T.n_isinstance (by rfl) (aa (pv 0) (aa (cZ rfl T.n_tuple (by rfl) (v := .ty "tuple") rfl) ag))))) (fJ (aI (tE K eK) (aw (dy K) rfl T.n_len (by rfl) (aa (pv 0) ag)) ao (aL _)) (fJ (dU (cH (aw (kP K) rfl T.n_isinstance (by rfl) (aa (cX (mF K) (pv 0) ao (fun _ _=>rfl)) (aa (cZ rfl T.n_str (by rfl) (v := .ty "str") rfl) ag))))) (gh (aI (ur K eK) (cX (mF K) (pv 0) ao (fun _ _=>rfl)) bu (aL _))))))) (au (aJ dk)) aV)
  (ah (bS (PW.pt (fJ (dU (cH (aw (qf K rfl) rfl T.n_all (by rfl) (aa (br rfl (aM (Nc:=["_law_sign"]) (Fc:=[]) (js:=[])) (zt (cX (mF K) (pv 0) ao (fun _ _=>rfl))) (az (i:=0) (n:=1) (by decide)) (fun _ _ _ _ _=>(av (i:=0) (d4 ["_law_sign"]) rfl (Or.inl rfl))) (fun _ _ _ _ _=>aX) (fun _ _ _ _ _=>(fG EU (pv 0) bu (by with_unfolding_all rfl)))) ag)))) (fJ (cH (aw (kP K) rfl T.n_isinstance (by rfl) (aa (cX (mF K) (pv 0) ao (fun _ _=>rfl)) (aa (cZ rfl T.n_bool (by rfl) (v := .ty "bool") rfl) ag)))) (gh (dU (cH (aw (kP K) rfl T.n_isinstance (by rfl) (aa (cX (mF K) (pv 0) ao (fun _ _=>rfl)) (aa (cZ rfl T.n_int (by rfl) (v := .ty "int") rfl) ag))))))))) (au (aJ dk)) aV)
  (au (aJ (fG tW (cX (mF K) (pv 0) ao (fun _ _=>rfl)) ao (aL _)))))),?_⟩
 have no:∀{H'},¬sZ d->aj H H'->Q (.bl false) H':=fun h s=>q false _ ⟨(fun z=>nomatch z),fun z=>absurd z h⟩ s
 refine⟨_,rfl,.inl ⟨v, "tuple",d,_,rfl,hv,(kb K d).2.2.2.2,_,rfl,?_⟩⟩
 by_cases ht:lO d "tuple" = true
 ·obtain⟨ds,rfl⟩:=jX.mp ht
  rw[ht]
  unfold Den at hv
  obtain⟨p,vs,rfl,hp,hds⟩:=hv
  have Bf:vs.length=ds.length:=hds.len
  refine bI ⟨_,rfl,_,_,rfl,.inr ⟨_,hp,rfl⟩,.inl ⟨rfl,_,rfl,?_⟩⟩
  by_cases h2:ds.length=2
  ·rw[show decide (V.int (vs.length:Nat)=V.int 2)=true by rw[Bf,h2];decide]
   refine bI ?_
   refine ae.el (xg hds h2) _ ?_
   clear hds
   rintro d0 d1 v0 v1 rfl rfl k0 k1
   obtain⟨pz0,pz1⟩:=tu pz
   have hw:PyData.weight d0+1+(PyData.weight d1+1+0)<=1000000:=by simpa only [PyData.weight,PyData.weightAll] using hw
   have LA:∀{H':Hp} {R:VK},aj H H'->R v0 H'->GP K (.ref p) (.int 0) H' R:=fun s' r =>.inr (.inl ⟨p,_,0,_,rfl,rfl,s'.jd hp,rfl,r⟩)
   have L1:∀{H':Hp} {R:VK},aj H H'->R v1 H'->GP K (.ref p) (.int 1) H' R:=fun s' r =>.inr (.inl ⟨p,_,1,_,rfl,rfl,s'.jd hp,rfl,r⟩)
   have sr:=aj.refl H
   refine⟨_,rfl,LA sr (.inl ⟨_, "str",d0,_,rfl,k0,(kb K d0).2.2.1,_,rfl,?_⟩)⟩
   by_cases hs:lO d0 "str" = true
   ·obtain⟨x,rfl⟩:=jO.mp hs
    rw[hs]
    unfold Den at k0
    subst k0
    have mq:x.length<=1000000:=by
     have e:PyData.weight (.str x)=x.length:=by simp only[PyData.weight];rfl
     omega
    refine bI ⟨_,rfl,LA sr (.inl ⟨rfl,_,rfl,?_⟩)⟩
    rw[rN]
    by_cases hx:x = ""
    ·rw[decide_eq_true hx]
     refine bK (no (fun z =>?_) sr)
     obtain⟨y,e,_,ne⟩:=(da.mp z).1
     injection e with e
     exact ne (e▸hx)
    ·rw[decide_eq_false hx]
     refine bI ?_
     dsimp only[xp]
     have yh:x.cps.all (· < 128)=true:=by simpa only [Pz,vL] using pz0
     have xl:x.cps.toList.length=x.length:=by simp[Str.length]
     have ED:∀c∈x.cps.toList,c<128:=fun c hc=>by
      rw[Array.all_eq_true_iff_forall_mem] at yh
      have:=yh c (by simpa using hc)
      simpa using this
     have binI:(x.cps.toList.all fun c=>Txt.contains dS ⟨#[c]⟩)=true↔iB x:=by
      rw[Yh]
      refine⟨fun h c hc =>?_,fun h c hc =>?_⟩
      ·have:=h c hc
       rw[l6 c (ED c hc)] at this
       simpa using this
      ·rw[l6 c (ED c hc)]
       rcases h c hc with e|e<;>rw[e]<;>rfl
     refine⟨_,rfl,LA sr ⟨x,rfl,yh,?_⟩⟩
     refine bo (N:=x.length) (fun i ys H'=>H'=H/\ys=((x.cps.toList.take i).map fun c=>Txt.contains dS ⟨#[c]⟩).map V.bl) ⟨rfl,rfl⟩ ?_ ?_
     ·rintro i ys H' Nx hi ⟨rfl,rfl⟩ nx
      have gP:i<x.cps.toList.length:=by omega
      have ec:x.cps[i]? = some (x.cps.toList[i]):=by
       rw[<-Ua,Jd gP]
      refine⟨hi,Ub (by rw[Ja,Ja,J1];omega) (show 1000000<sizeLine by decide),?_⟩
      rintro x' H2 ⟨rfl,hy⟩
      have e:=hy _ ec
      subst e
      refine⟨_,rfl,_,_,rfl,rfl,nx _ _ ⟨rfl,?_⟩⟩
      rw[List.take_succ_eq_append_getElem gP,Jl,Jl];rfl
     ·rintro ys H1 ⟨rfl,rfl⟩
      refine⟨Je _,fun p3 hp3=>⟨p3,_,rfl,aK.of ax,_,rfl,?_⟩⟩
      rw[<-xl,J3,List.all_map]
      have s3:aj H1 (upd H1 p3 (.lst ((x.cps.toList.map fun c=>Txt.contains dS ⟨#[c]⟩).map V.bl))):=bj hp3 _
      generalize upd H1 p3 (.lst ((x.cps.toList.map fun c=>Txt.contains dS ⟨#[c]⟩).map V.bl))=H3 at s3 ⊢
      rw[show(id∘fun c=>Txt.contains dS ⟨#[c]⟩)=fun c=>Txt.contains dS ⟨#[c]⟩ from rfl]
      by_cases hb:iB x
      ·rw[binI.mpr hb]
       have Oc:=k1.same s3
       refine bI ⟨_,rfl,L1 s3 (.inl ⟨_, "bool",d1,_,rfl,Oc,(kb K d1).1,_,rfl,?_⟩)⟩
       by_cases c1:lO d1 "bool" = true
       ·rw[c1]
        refine bK (no (fun z =>?_) s3)
        have:=(iQ.mpr (da.mp z).2.1).2
        rw[c1] at this;cases this
       ·rw[Ur.mpr c1]
        refine bI ⟨_,rfl,L1 s3 (.inl ⟨_, "int",d1,_,rfl,Oc,(kb K d1).2.1,_,rfl,?_⟩)⟩
        by_cases c2:lO d1 "int" = true
        ·rw[c2]
         obtain⟨n,rfl⟩:=iQ.mp ⟨c2,Ur.mpr c1⟩
         unfold Den at k1
         subst k1
         refine bI ⟨_,rfl,L1 s3 ⟨_,_,rfl,rfl,q _ _ ?_ s3⟩⟩
         rw[da,decide_eq_true_iff]
         refine⟨fun h=>⟨⟨x,rfl,hb,hx⟩,⟨n,rfl⟩,n.toNat,by congr 1;omega⟩,fun⟨_,_,m,e⟩=>?_⟩
         injection e with e
         show(0:Int)<=n
         omega
        ·rw[Ur.mpr c2]
         refine bK (no (fun z =>?_) s3)
         exact c2 (iQ.mpr (da.mp z).2.1).1
      ·rw[Ur.mpr (fun z=>hb (binI.mp z))]
       refine bK (bK (no (fun z =>?_) s3))
       obtain⟨y,e,hy,_⟩:=(da.mp z).1
       injection e with e
       exact hb (e▸hy)
   ·rw[Ur.mpr hs]
    refine bK (bK (no (fun z =>?_) sr))
    obtain⟨y,e,_⟩:=(da.mp z).1
    exact hs (jO.mpr ⟨y,e⟩)
  ·rw[show decide (V.int (vs.length:Nat)=V.int 2)=false by rw[Bf];exact decide_eq_false fun z=>h2 (by injection z with z;omega)]
   refine bK (bK (no (fun z =>?_) (aj.refl _)))
   obtain⟨d0,d1,e⟩:=oq z
   injection e with e
   exact h2 (by rw[e];rfl)
 ·rw[Ur.mpr ht]
  refine bK (bK (no (fun z =>?_) (aj.refl _)))
  obtain⟨d0,d1,e⟩:=oq z
  exact ht (jX.mpr ⟨_,e⟩)
end
def xM (x r:Str)(n:Nat):Prop:=∃a:Nat,1<=a/\a<n/\sg r=(sg x).drop a
def fw (B:List (Str×Str))(r:Str):Prop:=∃q∈B,xM q.2 r (sg q.2).length
noncomputable def dP (r:Str):Key×V:=(.inr r,.bl true)
theorem jU {ts:List Str}(r:Str):putK (ts.map dP) (.inr r) (.bl true)=(if r∈ts then ts else ts++[r]).map dP:=by
 by_cases h:r∈ts
 ·rw[if_pos h]
  unfold putK
  rw[if_pos (List.any_eq_true.mpr ⟨dP r,U5 h,decide_eq_true rfl⟩),Y9]
  refine List.map_congr_left fun z _ =>?_
  show(if (dP z).1 = .inr r then ((dP z).1,V.bl true) else dP z)=dP z
  split<;>rfl
 ·rw[if_neg h,dH _ (kr fun y hy e=>h ?_),Jl]
  ·rfl
  ·have e:(Sum.inr y:Key) = .inr r:=e
   rw[<-Sum.inr.inj e];exact hy
theorem oT {ts:List Str}{r:Str}(h:ts.Nodup):(if r∈ts then ts else ts++[r]).Nodup:=by
 by_cases hr:r∈ts
 ·rw[if_pos hr];exact h
 ·rw[if_neg hr];exact tK h hr
theorem lI {ts:List Str}{r x:Str}:x∈(if r∈ts then ts else ts++[r])↔x∈ts∨x=r:=by
 by_cases hr:r∈ts
 ·rw[if_pos hr]
  exact⟨.inl,fun h=>h.elim id fun e=>e▸hr⟩
 ·rw[if_neg hr,Jh,Jg]
theorem qa {ts:List Str}{r:Str}:(if r∈ts then ts else ts++[r]).length<=ts.length+1:=by
 split
 ·omega
 ·rw[Jf];exact Je _
def yy (K:Jb):Sp:=fun vs H Q _=>cq fun(l:Addr) (B:List (Str×Str))=>vs=[.ref l]/\o7 K H B l/\eS B /\
 ∀(ts:List Str) (p:Addr) (H':Hp),aj H H'->H p=none->H' p=some (.lst (ts.map V.str))->ts.Nodup->ts.length<=200->(∀r,r∈ts↔fw B r)->Q (.ref p) H'
section
variable {P:Program}{w:World}{K:Jb}{mg:Str->Option Value}{base:Heap}{f:Addr}{fd:FuncData}
theorem nH:aO ["book"] ["book"] (aA (top gz)):=⟨rfl,rfl,rfl,by decide +kernel,rfl,by decide +kernel,by decide +kernel⟩
theorem Gp (F:dj K "code_ends" "code_ends" (top gz) f fd)(T:Nm mg):bW P w K mg base fI 1 f fd ["book"] (yy K):=by
 refine F.ok nH (fun vs H Q E h =>?_) (fun dZ A outer s H vs Q E hr h =>?_)
 ·obtain⟨l,B,rfl,_⟩:=h
  rfl
 unfold yy at h
 refine ae.el h _ ?_
 clear h
 rintro l B rfl hB gB q
 have hle:=gB.le
 refine⟨_,(au (aJ (cC (GQ rfl) rfl T.n_list (by rfl) (aa (uY rfl (aM (Nc:=["name", "code", "at"]) (Fc:=[]) (js:=[])) (iA K (pv 0)) (eY (aU (az (i:=0) (n:=3) (by decide)) (aU (az (i:=1) (n:=3) (by decide)) dB aF bp) aF (bz aF bp))) (fun _ _ _ _ _=>(tupK K 2 rfl (aG (av (i:=0) (d4 ["name", "code", "at"]) rfl (Or.inl rfl)) (aG (av (i:=1) (d4 ["name", "code", "at"]) rfl (Or.inl rfl)) cy)))) (fun _ _ _ _ _=>(jt rfl T.n_range (aa ao (aa (aw (dy K) rfl T.n_len (by rfl) (aa (pv 1) ag)) ag)))) (fun _ _ _ _ _=>(av (i:=2) (d4 ["name", "code", "at"]) rfl (Or.inl rfl))) (fun _ _ _ _ _=>(bg (oU K) (pv 1) (bw (pv 2)) bB)) (fun _ _ _ _ _=>dk)) ag)))),?_⟩
 obtain⟨vs,hl,hd⟩:=id hB
 have hlen:=oO hd
 refine⟨_,rfl,l,rfl,⟨_,hl⟩,fun D hD =>?_⟩
 refine⟨fun k m H'=>∃ts:List Str,m=B.length-k/\k<=B.length/\aj H H'/\H' D=some (.dK (ts.map dP))/\ts.Nodup/\ts.length<=12*k/\∀r,r∈ts↔fw (B.take k) r,⟨_,[],rfl,Um _,bj hD _,ax,Wm,Je _,fun r=>⟨(fun h=>nomatch h),fun⟨q,hq,_⟩=>nomatch hq⟩⟩,?_⟩
 intro k m H1
 refine ae.go ?_
 rintro ts rfl hk sm hD1 nd tl mem
 by_cases cF:k<B.length
 ·refine .inr ⟨?_,?_⟩
  ·refine ae.el (qm hd cF) _ ?_
   rintro tp e1 e2
   exact⟨_,_,sm.seq hl,e1⟩
  rintro x H2 ⟨rfl,hy⟩
  refine ae.el (qm hd cF) _ ?_
  rintro tp e1 e2
  have e:=hy _ (sm.seq hl)
  rw[e1] at e;cases e
  have hc:=(gB.cd _ (Jo cF)).le
  have Aj:=(gB.cd _ (Jo cF)).pos
  have cY:=aQ cF
  generalize B[k]=z at e2 hc Aj cY
  have Fy:z.2.length=(sg z.2).length:=str_len _
  refine⟨tp,_,rfl,sm.jd e2,rfl,_,_,rfl,_,_,rfl,rfl,?_⟩
  refine⟨rfl,?_⟩
  have old:∀{r:Str},fw (B.take (k+1)) r↔fw (B.take k) r∨xM z.2 r (sg z.2).length:=fun{r}=>by
   rw[cY]
   refine⟨fun⟨q,hq,h⟩=>?_,fun h =>?_⟩
   ·rcases Jh.mp hq with hq|hq
    ·exact .inl ⟨q,hq,h⟩
    ·rw[Jg.mp hq] at h;exact .inr h
   ·rcases h with ⟨q,hq,h⟩|h
    ·exact⟨q,Uc _ hq,h⟩
    ·exact⟨z,Ji _ (Jg.mpr rfl),h⟩
  refine⟨_,rfl,_,_,rfl,⟨sizeOk (by omega),rfl⟩,1,(z.2.length:Nat),rfl,⟨by omega,by omega,by omega,by omega⟩,?_⟩
  refine⟨fun k2 m2 H'=>∃us:List Str,m2=(z.2.length-1)-k2/\k2<=z.2.length-1/\aj H H'/\H' D=some (.dK (us.map dP))/\us.Nodup/\us.length<=12*k+k2/\∀r,r∈us↔fw (B.take k) r∨xM z.2 r (1+k2),⟨_,ts,rfl,Um _,sm,hD1,nd,tl,fun r=>(mem r).trans ⟨.inl,fun h=>h.elim id fun⟨a,a1,a2,_⟩=>absurd a2 (by omega)⟩⟩,?_⟩
  intro k2 m2 H3
  refine ae.go ?_
  rintro us rfl hk2 sm3 hD3 nd3 ul mem3
  by_cases h2:k2<z.2.length-1
  ·refine .inr ⟨by show k2<_;omega,?_⟩
   rintro y H4 ⟨rfl,rfl⟩
   refine⟨_,rfl,_,rfl,_,rfl,?_⟩
   dsimp only[cU]
   refine .inr ⟨z.2,rfl,sizeOk (by omega),?_⟩
   have es:=dE (x:=z.2) (1+k2)
   have ei:((1:Int)+(k2:Int))=((1+k2:Nat):Int):=by omega
   rw[ei]
   generalize Txt.slice z.2 (some ((1+k2:Nat):Int)) none=r at es
   refine⟨_,.inr r,hD3,rfl,?_,_,?_,_,rfl,h2,fun b o e =>?_,by rw[jU];exact ax,oT nd3,?_,fun x =>?_⟩
   ·rw[Ja];exact Ub (show us.length<=1000 by omega) (by decide)
   ·omega
   ·rw[ak (aq e hD)];exact sm3 b o e
   ·have:=qa (ts:=us) (r:=r);omega
   ·rw[lI,mem3]
    refine⟨fun h =>?_,fun h =>?_⟩
    ·rcases h with (h|⟨a,a1,a2,a3⟩)|h
     ·exact .inl h
     ·exact .inr ⟨a,a1,by omega,a3⟩
     ·rw[h];exact .inr ⟨1+k2,by omega,by omega,es⟩
    ·rcases h with h|⟨a,a1,a2,a3⟩
     ·exact .inl (.inl h)
     ·by_cases ea:a=1+k2
      ·exact .inr (dq (by rw[a3,es,ea]))
      ·exact .inl (.inr ⟨a,a1,by omega,a3⟩)
  ·have e2:k2=z.2.length-1:=by omega
   subst e2
   refine .inl ⟨by show _<=_;omega,_,?_,us,rfl,cF,sm3,hD3,nd3,by omega,fun r=>(mem3 r).trans ?_⟩
   ·omega
   ·rw[old,show 1+(z.2.length-1)=(sg z.2).length by omega]
 ·have e:k=B.length:=by omega
  subst e
  rw[J3] at mem
  refine .inl ⟨⟨_,sm.seq hl,by omega⟩,?_⟩
  refine⟨D,_,rfl,hD1,fun p H2 n2=>q ts p H2 (sm.trans n2.same) ?_ ?_ nd (by omega) mem⟩
  ·cases e:H p with
   | none=>rfl
   | some o=>have:=n2.nn;rw[sm _ _ e] at this;cases this
  ·have e:((ts.map dP).map fun q=>kV q.1)=ts.map V.str:=by rw[Y9];rfl
   rw[<-e];exact n2.at
end
noncomputable def iO (a b:Str):V:=if Txt.startswith a b=true then .str (Txt.slice a (some (b.length:Nat)) none) else if Txt.startswith b a=true then .str (Txt.slice b (some (a.length:Nat)) none) else .non
def nU:Sp:=fun vs H Q _=>∃a b:Str,vs=[.str a,.str b]/\a.length<=1000000/\b.length<=1000000/\Q (iO a b) H
section
variable {P:Program}{w:World}{K:Jb}{mg:Str->Option Value}{base:Heap}{f:Addr}{fd:FuncData}
theorem zB:aO ["one", "other"] ["one", "other"] (aA (top jh)):=⟨rfl,rfl,rfl,by decide +kernel,rfl,by decide +kernel,by decide +kernel⟩
theorem Ai (F:dj K "rest_of" "rest_of" (top jh) f fd)(T:Nm mg):bW P w K mg base fI 1 f fd ["one", "other"] nU:=by
 refine F.ok zB (fun vs H Q E h =>?_) (fun dZ A outer s H vs Q E hr h =>?_)
 ·obtain⟨a,b,rfl,_⟩:=h
  rfl
 unfold nU at h
 refine ae.el h _ ?_
 clear h
 rintro a b rfl ha hb q
 refine⟨_,(ah (bS (cH (vK K PySem.F.plainAttrs_str PySem.F.slot_str_startswith PySem.F.type_str_startswith gY (pv 0) (aa (pv 1) ag))) (au (aJ (bg (Np K) (pv 0) (bw (aw (dy K) rfl T.n_len (by rfl) (aa (pv 1) ag))) bB))) aV)
  (ah (bS (cH (vK K PySem.F.plainAttrs_str PySem.F.slot_str_startswith PySem.F.type_str_startswith gY (pv 1) (aa (pv 0) ag))) (au (aJ (bg (Np K) (pv 1) (bw (aw (dy K) rfl T.n_len (by rfl) (aa (pv 0) ag))) bB))) aV)
  (au (aJ e7)))),?_⟩
 unfold iO at q
 refine⟨_,rfl,rfl,_,rfl,a,b,rfl,rfl,_,rfl,?_⟩
 refine fe (fun c =>?_) (fun c =>?_)
 ·rw[if_pos c] at q
  exact⟨_,rfl,_,rfl,_,_,rfl,⟨sizeOk (Jr hb (by decide)),rfl⟩,_,rfl,.inr ⟨a,rfl,sizeOk (Jr ha (by decide)),q⟩⟩
 ·rw[if_neg c] at q
  refine⟨_,rfl,rfl,_,rfl,b,a,rfl,rfl,_,rfl,?_⟩
  refine fe (fun c =>?_) (fun c =>?_)
  ·rw[if_pos c] at q
   exact⟨_,rfl,_,rfl,_,_,rfl,⟨sizeOk (Jr ha (by decide)),rfl⟩,_,rfl,.inr ⟨b,rfl,sizeOk (Jr hb (by decide)),q⟩⟩
  ·rw[if_neg c] at q
   exact q
end
def AB:Sp:=fun vs H Q _=>∃t:Str,vs=[.str t]/\t.length<=100000/\∀z H',dX H z (.tup [.int t.length,.str t]) H'->Q (.ref z) H'
section
variable {P:Program}{w:World}{K:Jb}{mg:Str->Option Value}{base:Heap}{f:Addr}{fd:FuncData}
theorem jG:aO ["text"] ["text"] (aA (top eJ)):=⟨rfl,rfl,rfl,by decide +kernel,rfl,by decide +kernel,by decide +kernel⟩
theorem GO (F:dj K "length_first" "length_first" (top eJ) f fd)(T:Nm mg):bW P w K mg base fI 1 f fd ["text"] AB:=by
 refine F.ok jG (fun vs H Q E h =>?_) (fun dZ A outer s H vs Q E hr h =>?_)
 ·obtain⟨t,rfl,_⟩:=h
  rfl
 unfold AB at h
 refine ae.el h _ ?_
 clear h
 rintro t rfl ht q
 refine⟨_,(au (aJ (fT (aa (aw (dy K) rfl T.n_len (by rfl) (aa (pv 0) ag)) (aa (pv 0) ag))))),?_⟩
 exact⟨_,rfl,_,_,rfl,⟨sizeOk (by omega),rfl⟩,_,rfl,by show 2<=sizeLine;decide,fun p H' n=>q p H' n⟩
end
def Bh (q:Str×Str)(x r:Str):Prop:=iO x q.2 = .str r/\r ≠ ""
theorem xI (x y:Str):iO x y = .non∨∃r,iO x y = .str r:=by
 unfold iO
 split
 ·exact .inr ⟨_,rfl⟩
 ·split
  ·exact .inr ⟨_,rfl⟩
  ·exact .inl rfl
noncomputable abbrev ME:=Addr×(Str×Str)×Str
def Ba (H:Hp)(z:ME):Prop:=H z.1=some (.tup [.str z.2.1.1,.str z.2.1.2,.str z.2.2])
def u0 (K:Jb):Sp:=fun vs H Q _=>gO fun(l:Addr) (x:Str) (B:List (Str×Str))=>vs=[.ref l,.str x]/\o7 K H B l/\eS B/\x.length<=1000000 /\
 ∀(as:List ME) (p:Addr) (H':Hp),aj H H'->H p=none->H' p=some (.lst (as.map fun z=>V.ref z.1))->as.length<=16->(∀z∈as,Ba H' z/\z.2.1∈B/\Bh z.2.1 x z.2.2)->(∀q∈B,∀r,Bh q x r->∃z∈as,z.2.1=q/\z.2.2=r)->Q (.ref p) H'
def xB (K:Jb):Sp:=fun vs H Q _=>cq fun(l:Addr) (B:List (Str×Str))=>vs=[.ref l]/\o7 K H B l/\eS B /\
 ∀(ts:List Str) (p:Addr) (H':Hp),aj H H'->H p=none->H' p=some (.lst (ts.map V.str))->ts.Nodup->ts.length<=200->(∀r,r∈ts↔fw B r)->Q (.ref p) H'
theorem fw.len {B:List (Str×Str)}(g:eS B){r:Str}(h:fw B r):r.length<=12/\1<=r.length:=by
 obtain⟨q,hq,a,a1,a2,e⟩:=h
 have h1:=(g.cd q hq).le
 have e1:q.2.length=(sg q.2).length:=str_len _
 have e2:r.length=(sg r).length:=str_len _
 rw[e,Ui] at e2
 omega
section
variable {P:Program}{w:World}{K:Jb}{mg:Str->Option Value}{base:Heap}{f:Addr}{fd:FuncData}
theorem sh:aO ["book"] ["book"] (aA (top jg)):=⟨rfl,rfl,rfl,by decide +kernel,rfl,by decide +kernel,by decide +kernel⟩
theorem FT (F:dj K "lags_of" "lags_of" (top jg) f fd)(T:Nm mg)(dg:mg "sorted" = none)(gq:Fn P w K mg base 1 "code_ends" ["book"] (yy K))(kE:Fn P w K mg base 1 "length_first" ["text"] AB):bW P w K mg base fI 4 f fd ["book"] (xB K):=by
 refine ae.el (kE.ex) _ ?_
 rintro ky_length_first fdk FK_length_first BK_length_first _ GK_length_first
 refine F.ok sh (fun vs H Q E h =>?_) (fun dZ A outer s H vs Q E hr h =>?_)
 ·obtain⟨l,B,rfl,_⟩:=h
  rfl
 unfold xB at h
 refine ae.el h _ ?_
 clear h
 rintro l B rfl hB gB q
 refine⟨_,(au (aJ (ju (xc K (DV FK_length_first (hr.mono (by decide)) BK_length_first)) rfl dg (by rfl) (aa (aP (gq.mono (by decide)) hr rfl (aa (pv 0) ag)) ag) (mZ (sO (v := .ref ky_length_first) rfl GK_length_first rfl) rH)))),?_⟩
 refine⟨_,rfl,l,B,rfl,hB,gB,fun ts p H1 s1 G3 hW nd tl mem =>?_⟩
 refine⟨p,ts,rfl,rfl,aK.of hW,fun t ht Hj =>?_,fun us p2 H2 perm _ s2 qB h2 =>?_⟩
 ·have:=((mem t).mp ht).len gB
  exact⟨t,rfl,by omega,fun z H' n=>⟨z,rfl,n⟩⟩
 ·refine q us p2 H2 (s1.trans s2) ?_ h2 (perm.nodup_iff.mpr nd) (by rw[perm.length_eq];exact tl) fun r=>(perm.mem_iff).trans (mem r)
  cases e:H p2 with
  | none=>rfl
  | some o=>rw[s1 _ _ e] at qB;cases qB
theorem fX:aO ["book", "lag", "rests"] ["book", "lag"] (aA (top eW)):=⟨rfl,rfl,rfl,by decide +kernel,rfl,by decide +kernel,by decide +kernel⟩
theorem EY (F:dj K "lags_behind" "lags_behind" (top eW) f fd)(T:Nm mg)(uE:Fn P w K mg base 1 "rest_of" ["one", "other"] nU):bW P w K mg base fI 2 f fd ["book", "lag"] (u0 K):=by
 refine F.ok fX (fun vs H Q E h =>?_) (fun dZ A outer s H vs Q E hr h =>?_)
 ·obtain⟨l,x,B,rfl,_⟩:=h
  rfl
 unfold u0 at h
 refine ae.el h _ ?_
 clear h
 rintro l x B rfl hB gB hx q
 have eK:=hr.units
 have hle:=gB.le
 refine⟨_,(ah (bV (i:=2) fX.nd rfl (Or.inl rfl) rfl (aM (Nc:=["name", "code"]) (Fc:=["lag"]) (js:=[1])) (iA K (pv 0)) (eY (aU (az (i:=0) (n:=2) (by decide)) (aU (az (i:=1) (n:=2) (by decide)) dB aF bp) aF (bz aF bp))) (fun _ _ _ _ _=>(tupK K 2 rfl (aG (av (i:=0) (d4 ["name", "code", "lag"]) rfl (Or.inl rfl)) (aG (av (i:=1) (d4 ["name", "code", "lag"]) rfl (Or.inl rfl)) cy)))) (fun _ _ _ _ _=>aX) (fun _ _ _ _ _=>(fT (aa (pv 0) (aa (pv 1) (aa (aP (uE.mono (by decide)) hr rfl (aa (pv 2) (aa (pv 1) ag))) ag))))))
  (au (aJ (br rfl (aM (Nc:=["name", "code", "rest"]) (Fc:=[]) (js:=[])) (iA K (pv 2)) (eY (aU (az (i:=0) (n:=3) (by decide)) (aU (az (i:=1) (n:=3) (by decide)) (aU (az (i:=2) (n:=3) (by decide)) dB aF bp) aF (bz aF bp)) aF (bz aF (bz aF bp)))) (fun _ _ _ _ _=>(tupK K 3 rfl (aG (av (i:=0) (d4 ["name", "code", "rest"]) rfl (Or.inl rfl)) (aG (av (i:=1) (d4 ["name", "code", "rest"]) rfl (Or.inl rfl)) (aG (av (i:=2) (d4 ["name", "code", "rest"]) rfl (Or.inl rfl)) cy))))) (fun _ _ _ _ _=>(iD (PW.pt (iw (aI ou (pv 2) e7 (aL _)) (gI (aI (tE K eK) (pv 2) bu (aL _))))))) (fun _ _ _ _ _=>(fT (aa (pv 0) (aa (pv 1) (aa (pv 2) ag))))))))),?_⟩
 obtain⟨vs,hv,hd⟩:=id hB
 have hlen:=oO hd
 have small:∀{n:Nat},n<=1000->n<sizeLine:=fun h=>Ub h (by decide)
 refine dc (te:=fY _ _ _ _ _ _) (fun v H'=>cq fun(p:Addr) (bs:List Addr)=>v = .ref p/\aj H H'/\H p=none/\H' p=some (.lst (bs.map V.ref))/\bs.length=B.length/\∀(i:Nat) (a:Addr) (hi:i<B.length),bs[i]? = some a->H' a=some (.tup [.str B[i].1,.str B[i].2,iO x B[i].2])) (fun Qn qn =>?_) ?_
 ·refine⟨_,rfl,l,rfl,⟨_,hv⟩,?_⟩
  refine gu (N:=B.length) (fun i ys H'=>∃bs:List Addr,aj H H'/\ys=bs.map V.ref/\bs.length=i/\∀(j:Nat) (a:Addr) (hj:j<B.length),bs[j]? = some a->H' a=some (.tup [.str B[j].1,.str B[j].2,iO x B[j].2])) ⟨[],aj.refl _,rfl,rfl,fun j a hj h=>nomatch h⟩ ?_ ?_
  ·intro i ys H1 Ny hi hz_ ny
   refine ae.el hz_ _ ?_
   clear hz_
   rintro bs s1 rfl bl hb
   refine ae.el (qm hd hi) _ ?_
   rintro tp e1 e2
   refine⟨⟨_,_,s1.seq hv,e1⟩,small (by rw[Ja];omega),?_⟩
   rintro y H2 ⟨rfl,hy⟩
   have e:=hy _ (s1.seq hv)
   rw[e1] at e;cases e
   have hc:=(gB.cd _ (Jo hi)).le
   refine⟨tp,_,rfl,s1.jd e2,rfl,_,_,rfl,_,_,rfl,rfl,?_⟩
   refine⟨_,rfl,_,rfl,_,rfl,_,rfl,x,B[i].2,rfl,by omega,by omega,by show 3<=sizeLine;decide,fun a H3 n3=>ny _ _ ⟨bs++[a],s1.trans n3.same,by rw[Jl];rfl,by rw[Jf,bl];rfl,fun j a' hj h =>?_⟩⟩
   by_cases hji:j<i
   ·rw[J6 (by omega)] at h
    exact n3.same _ _ (hb j a' hj h)
   ·rw[Jz (by omega),bl] at h
    have e0:j-i=0:=by
     cases hz:j-i with
     | zero=>rfl
     | succ k=>rw[hz] at h;cases h
    have ej:j=i:=by omega
    subst ej
    rw[e0] at h
    cases h
    exact n3.at
  ·intro ys H1
   refine ae.go ?_
   rintro bs s1 rfl bl hb
   refine⟨⟨_,s1.seq hv,by omega⟩,fun p H2 n2=>qn _ _ ⟨p,bs,rfl,s1.trans n2.same,?_,n2.at,bl,fun j a hj h=>n2.same _ _ (hb j a hj h)⟩⟩
   cases e:H p with
   | none=>rfl
   | some o=>have:=n2.nn;rw[s1 _ _ e] at this;cases this
 intro v H1
 refine ae.go ?_
 rintro p1 bs rfl s1 hp10 hW bl hb
 refine gn ?_
 have jM:∀{i:Nat} (hi:i<B.length),∃a,bs[i]? = some a/\(bs.map V.ref)[i]? = some (.ref a):=fun{i} hi=>⟨bs[i]'(by omega),Jd (by omega),by rw[Jk,Jd (by omega)];rfl⟩
 refine⟨_,rfl,p1,rfl,⟨_,aK.of hW⟩,?_⟩
 refine bo (N:=B.length) (fun i ys H'=>∃as:List ME,aj H1 H'/\ys=as.map (fun z=>V.ref z.1)/\as.length<=i/\(∀z∈as,Ba H' z/\z.2.1∈B/\Bh z.2.1 x z.2.2)/\∀q∈B.take i,∀r,Bh q x r->∃z∈as,z.2.1=q/\z.2.2=r) ⟨[],aj.refl _,rfl,Je _,(fun z h=>nomatch h),fun q h=>nomatch h⟩ ?_ ?_
 ·intro i ys H2 Ny hi hz_ ny
  refine ae.el hz_ _ ?_
  clear hz_
  rintro as s2 rfl al ha hcv
  refine ae.el (jM hi) _ ?_
  rintro a ea ea'
  refine⟨⟨_,_,aK.of (s2 _ _ hW),ea'⟩,small (by rw[Ja];omega),?_⟩
  rintro y H3 ⟨rfl,hy⟩
  have e:=hy _ (aK.of (s2 _ _ hW))
  rw[ea'] at e;cases e
  have Ob:=s2 _ _ (hb i a hi ea)
  have hm:=Jo hi
  have cY:=aQ hi
  generalize B[i]=z at Ob hm cY
  refine⟨a,_,rfl,fP.of Ob,rfl,_,_,rfl,_,_,rfl,_,_,rfl,rfl,?_⟩
  rcases xI x z.2 with e|⟨r,e⟩
  ·rw[e]
   refine⟨_,rfl,.inl ⟨rfl,_,rfl,bI (ny _ _ ⟨as,s2,rfl,by omega,ha,fun q hq r' fN =>?_⟩)⟩⟩
   rw[cY] at hq
   rcases Jh.mp hq with hq|hq
   ·exact hcv q hq r' fN
   ·rw[Jg.mp hq] at fN
    have:=fN.1
    rw[e] at this;cases this
  ·rw[e]
   refine⟨_,rfl,.inl ⟨rfl,_,rfl,bK ?_⟩⟩
   have ed:(!decide (V.str r=V.str (Str.ofString ""))) = !decide (r = ""):=congrArg (! ·) (decide_eq_decide.mpr ⟨fun h=>(by injection h),fun h=>by rw[h]⟩)
   refine⟨_,rfl,.inl ⟨rfl,_,rfl,?_⟩⟩
   rw[ed]
   by_cases er:r = ""
   ·rw[decide_eq_true er]
    refine bI (ny _ _ ⟨as,s2,rfl,by omega,ha,fun q hq r' fN =>?_⟩)
    rw[cY] at hq
    rcases Jh.mp hq with hq|hq
    ·exact hcv q hq r' fN
    ·rw[Jg.mp hq] at fN
     have h1:=fN.1
     rw[e] at h1
     injection h1 with h1
     exact absurd (h1▸er) fN.2
   ·rw[decide_eq_false er]
    refine bK ⟨_,rfl,_,rfl,_,rfl,by show 3<=sizeLine;decide,fun a2 H4 n4=>ny _ _ ⟨as++[(a2,z,r)],s2.trans n4.same,by rw[Jl];rfl,by rw[Jf];exact Wk al,fun y hy =>?_,fun q hq r' fN =>?_⟩⟩
    ·rcases Jh.mp hy with hy|hy
     ·obtain⟨h1,h2⟩:=ha y hy
      exact⟨n4.same _ _ h1,h2⟩
     ·rw[Jg.mp hy]
      exact⟨n4.at,hm,e,er⟩
    ·rw[cY] at hq
     rcases Jh.mp hq with hq|hq
     ·refine ae.el (hcv q hq r' fN) _ ?_
      rintro y hy eq ey
      exact⟨y,Uc _ hy,eq,ey⟩
     ·rw[Jg.mp hq] at fN
      have h1:=fN.1
      rw[e] at h1
      injection h1 with h1
      exact⟨(a2,z,r),Ji _ (Jg.mpr rfl),(Jg.mp hq).symm,h1⟩
 ·intro ys H2
  refine ae.go ?_
  rintro as s2 rfl al ha hcv
  rw[J3] at hcv
  refine⟨⟨_,aK.of (s2 _ _ hW),by rw[Ja];omega⟩,fun p3 hp3 =>?_⟩
  have n3:dX H2 p3 (.lst (as.map fun z=>V.ref z.1)) (upd H2 p3 (.lst (as.map fun z=>V.ref z.1))):=⟨hp3,rfl⟩
  refine q as p3 _ ((s1.trans s2).trans n3.same) ?_ n3.at (by omega) (fun z hz=>⟨n3.same _ _ (ha z hz).1,(ha z hz).2⟩) hcv
  cases e:H p3 with
  | none=>rfl
  | some o=>rw[s2 _ _ (s1 _ _ e)] at hp3;cases hp3
end
theorem mh:∀(fs E:List Str),E.Nodup->∃N:List Str,bA (E.map dP) (fs.map dP)=(E++N).map dP/\(E++N).Nodup/\(∀x∈N,x∈fs)/\∀x,x∈E++N↔x∈E∨x∈fs
 | [],E,nd=>⟨[],by rw[U6];rfl,by rw[U6];exact nd,(fun x h=>nomatch h),fun x=>by rw[U6];exact⟨.inl,fun h=>h.elim id fun h=>nomatch h⟩⟩
 | f::fs,E,nd=>by
  refine ae.el (mh fs (if f∈E then E else E++[f]) (oT nd)) _ ?_
  rintro N h1 h2 h3 h4
  have e:∃M,(if f∈E then E else E++[f])++N=E++M/\∀x∈M,x∈f::fs:=by
   by_cases hf:f∈E
   ·rw[if_pos hf];exact⟨N,rfl,fun x hx=>Jn _ (h3 x hx)⟩
   ·rw[if_neg hf,Ul]
    refine⟨[f]++N,rfl,fun x hx =>?_⟩
    rcases Jh.mp hx with hx|hx
    ·rw[Jg.mp hx];exact Jq
    ·exact Jn _ (h3 x hx)
  refine ae.el (e) _ ?_
  rintro M e hM
  rw[e] at h1 h2 h4
  refine⟨M,?_,h2,hM,fun x=>(h4 x).trans ?_⟩
  ·rw[<-h1]
   show bA (putK (E.map dP) (.inr f) (.bl true)) (fs.map dP)=_
   rw[jU]
  ·rw[lI,Uh]
   exact⟨fun h=>h.elim (fun h=>h.elim .inl fun h =>.inr (.inl h)) fun h =>.inr (.inr h),fun h=>h.elim (fun h =>.inl (.inl h)) fun h=>h.elim (fun h =>.inl (.inr h)) .inr⟩
def sq (B:List (Str×Str))(E:List Str):Prop:=∀E1 r E2,E=E1++r::E2->∀q∈B,∀r',Bh q r r'->r'∈E1
theorem sq.more {B:List (Str×Str)}{E N:List Str}(h:sq B E)(hN:∀r∈N,∀q∈B,∀r',Bh q r r'->r'∈E):sq B (E++N):=by
 intro E1 r E2 e q hq r' hb
 rcases List.append_eq_append_iff.mp e with ⟨as,h1,h2⟩|⟨cs,h1,h2⟩
 ·rw[h1]
  exact Uc _ (hN r (by rw[h2];exact Ji _ Jq) q hq r' hb)
 ·cases cs with
  | nil=>
   rw[U6] at h1
   rw[<-h1]
   exact hN r (by rw[<-List.nil_append N,<-h2];exact Jq) q hq r' hb
  | cons c cs=>
   obtain⟨rfl,_⟩:=List.cons.inj h2
   exact h E1 r cs h1 q hq r' hb
theorem pH (E:List Str):(E.map dP).map (·.1)=E.map Sum.inr:=by rw[Y9];rfl
theorem iq {E:List Str}{r:Str}:(aW (E.map dP) (.inr r)).isSome=true↔r∈E:=by
 cases hv:aW (E.map dP) (.inr r) with
 | none=>
  refine⟨(fun h=>nomatch h),fun h=>absurd ?_ (kG hv)⟩
  rw[pH];exact U5 h
 | some v=>
  refine⟨fun _ =>?_,fun _=>rfl⟩
  have:=oQ hv
  rw[pH] at this
  refine ae.el (Ug.mp this) _ ?_
  rintro x hx e
  rw[<-Sum.inr.inj e];exact hx
def yW (K:Jb):Sp:=fun vs H Q _=>cq fun(l:Addr) (B:List (Str×Str))=>vs=[.ref l]/\o7 K H B l/\eS B /\
 ∀(d:Addr) (E:List Str) (H':Hp),aj H H'->H d=none->H' d=some (.dK (E.map dP))->E.Nodup->sq B E->(∀r∈E,fw B r)->(∀r,fw B r->r∉E->∃q∈B,∃r',Bh q r r'/\r'∉E)->Q (.ref d) H'
def iz (B:List (Str×Str))(H:Hp)(zs:List (Str×Addr)):Prop:=∀z∈zs,∃ls:List Str,H z.2=some (.lst (ls.map V.str))/\ls.length<=16/\∀r,r∈ls ↔ ∃q∈B,Bh q z.1 r
theorem iz.same {B:List (Str×Str)}{H H':Hp}{zs:List (Str×Addr)}(h:iz B H zs)(s:aj H H'):iz B H' zs:=fun z hz=>by
 obtain⟨ls,h1,h2⟩:=h z hz
 exact⟨ls,s _ _ h1,h2⟩
theorem iz.off {B:List (Str×Str)}{H H':Hp}{zs:List (Str×Addr)}{d:Addr}{kvs:List (Key×V)}(h:iz B H zs)(hd:H d=some (.dK kvs))(s:oG H d (.dK kvs) H'∨∃k2,oG H d (.dK k2) H'):iz B H' zs:=fun z hz=>by
 obtain⟨ls,h1,h2⟩:=h z hz
 refine⟨ls,?_,h2⟩
 have ne:z.2≠d:=fun e=>by rw[e,hd] at h1;cases h1
 rcases s with s|⟨k2,s⟩
 ·rw[s.ne ne];exact h1
 ·rw[s.ne ne];exact h1
noncomputable def B5 (z:Str×Addr):Key×V:=(.inr z.1,.ref z.2)
section
variable {P:Program}{w:World}{K:Jb}{mg:Str->Option Value}{base:Heap}{f:Addr}{fd:FuncData}
theorem bL:aO ["book", "left", "laters", "ending", "found"] ["book"] (aA (top eV)):=⟨rfl,rfl,rfl,by decide +kernel,rfl,by decide +kernel,by decide +kernel⟩
theorem GF (F:dj K "ending_lags" "ending_lags" (top eV) f fd)(T:Nm mg)(jc:Fn P w K mg base 4 "lags_of" ["book"] (xB K))(cQ:Fn P w K mg base 2 "lags_behind" ["book", "lag"] (u0 K)):bW P w K mg base fI 5 f fd ["book"] (yW K):=by
 refine F.ok bL (fun vs H Q E h =>?_) (fun dZ A outer s H vs Q E hr h =>?_)
 ·obtain⟨l,B,rfl,_⟩:=h
  rfl
 unfold yW at h
 refine ae.el h _ ?_
 clear h
 rintro l B rfl hB gB q
 have hu:=jB hr
 have hle:=gB.le
 have small:∀{n:Nat},n<=1000->n<sizeLine:=fun h=>Ub h (by decide)
 refine⟨_,(ah (aN (i:=1) bL.nd rfl (Or.inl rfl) (aP (jc.mono (by decide)) hr rfl (aa (pv 0) ag)))
  (ah (aN (i:=2) bL.nd rfl (Or.inr rfl) (kQ rfl (aM (Nc:=["lag"]) (Fc:=["book"]) (js:=[0])) (iA K (pv 1)) (az (i:=0) (n:=1) (by decide)) (fun _ _ _ _ _=>(av (i:=0) (d4 ["lag", "book"]) rfl (Or.inl rfl))) (fun _ _ _ _ _=>aX) (fun _ _ _ _ _=>(pv 0)) (fun _ _ _ _ _=>(br rfl (aM (Nc:=["name", "code", "later"]) (Fc:=[]) (js:=[])) (iA K (aP (cQ.mono (by decide)) hr rfl (aa (pv 1) (aa (pv 0) ag)))) (eY (aU (az (i:=0) (n:=3) (by decide)) (aU (az (i:=1) (n:=3) (by decide)) (aU (az (i:=2) (n:=3) (by decide)) dB aF bp) aF (bz aF bp)) aF (bz aF (bz aF bp)))) (fun _ _ _ _ _=>(tupK K 3 rfl (aG (av (i:=0) (d4 ["name", "code", "later"]) rfl (Or.inl rfl)) (aG (av (i:=1) (d4 ["name", "code", "later"]) rfl (Or.inl rfl)) (aG (av (i:=2) (d4 ["name", "code", "later"]) rfl (Or.inl rfl)) cy))))) (fun _ _ _ _ _=>aX) (fun _ _ _ _ _=>(pv 2))))))
  (ah (aN (i:=3) bL.nd rfl (Or.inr rfl) xa)
  (ah (aN (i:=4) bL.nd rfl (Or.inl rfl) (cC (Bw K) rfl T.n_list (by rfl) (aa (pv 1) ag)))
  (ah (lE PassesOwn.never (wo (pv 4) fun _=>rfl) (ah (bV (i:=4) bL.nd rfl (Or.inl rfl) rfl (aM (Nc:=["lag"]) (Fc:=["ending", "laters"]) (js:=[3,2])) (iA K (pv 1)) (az (i:=0) (n:=1) (by decide)) (fun _ _ _ _ _=>(av (i:=0) (d4 ["lag", "ending", "laters"]) rfl (Or.inl rfl))) (fun _ _ _ _ _=>(iD (cH (aw (qf K rfl) rfl T.n_all (by rfl) (aa (br rfl (aM (Nc:=["later"]) (Fc:=["ending"]) (js:=[1])) (iA K (dh hu (pv 2) (pv 0) (fun _ _=>rfl))) (az (i:=0) (n:=1) (by decide)) (fun _ _ _ _ _=>(av (i:=0) (d4 ["later", "ending"]) rfl (Or.inl rfl))) (fun _ _ _ _ _=>aX) (fun _ _ _ _ _=>(nG (j6 hu (pv 0) (pv 1))))) ag))))) (fun _ _ _ _ _=>(pv 0)))
  (ah (gK (vK K PySem.F.plainAttrs_dict PySem.F.slot_dict_update PySem.F.type_dict_update zc (pv 3) (aa (kQ rfl (aM (Nc:=["lag"]) (Fc:=[]) (js:=[])) (iA K (pv 4)) (az (i:=0) (n:=1) (by decide)) (fun _ _ _ _ _=>(av (i:=0) (d4 ["lag"]) rfl (Or.inl rfl))) (fun _ _ _ _ _=>aX) (fun _ _ _ _ _=>(pv 0)) (fun _ _ _ _ _=>dk)) ag)))
  (au (bV (i:=1) bL.nd rfl (Or.inl rfl) rfl (aM (Nc:=["lag"]) (Fc:=["ending"]) (js:=[3])) (iA K (pv 1)) (az (i:=0) (n:=1) (by decide)) (fun _ _ _ _ _=>(av (i:=0) (d4 ["lag", "ending"]) rfl (Or.inl rfl))) (fun _ _ _ _ _=>(iD (q5 (mY hu (pv 0) (pv 1))))) (fun _ _ _ _ _=>(pv 0)))))))
  (au (aJ (pv 3)))))))),?_⟩
 refine⟨_,rfl,l,B,rfl,hB,gB,fun ts p1 H1 s1 hp10 hW nd tl mem=>gn ?_⟩
 have jM:∀{xs:List Str} {i:Nat} (hi:i<xs.length),(xs.map V.str)[i]? = some (.str xs[i]):=fun hi=>by rw[Jk,Jd hi];rfl
 dsimp only
 refine dc (te:=j8 _ _ _ _ _ _ _) (fun v H'=>cq fun(D:Addr) (zs:List (Str×Addr))=>v = .ref D/\aj H1 H'/\H1 D=none/\H' D=some (.dK (zs.map B5))/\zs.map (·.1)=ts/\iz B H' zs) (fun Qn qn =>?_) ?_
 ·refine⟨_,rfl,p1,rfl,⟨_,aK.of hW⟩,fun D hD =>?_⟩
  refine⟨fun i m H'=>∃zs:List (Str×Addr),m=ts.length-i/\i<=ts.length/\aj H1 H'/\H' D=some (.dK (zs.map B5))/\zs.map (·.1)=ts.take i/\iz B H' zs,⟨_,[],rfl,Um _,bj hD _,ax,rfl,fun z hz=>nomatch hz⟩,?_⟩
  intro i m H2
  refine ae.go ?_
  rintro zs rfl hi s2 hD2 ez lt2
  by_cases cF:i<ts.length
  ·refine .inr ⟨⟨_,_,aK.of (s2 _ _ hW),jM cF⟩,?_⟩
   rintro y H3 ⟨rfl,hy⟩
   have e:=hy _ (aK.of (s2 _ _ hW))
   rw[jM cF] at e;cases e
   refine gn ?_
   dsimp only[fh]
   rw[if_pos rfl]
   have kR:=((mem _).mp (Jo cF)).len gB
   have cY:=aQ cF
   have Aq:ts[i]∉ts.take i:=fun h=>by
    refine ae.el (Yq.mp h) _ ?_
    rintro j hj ej
    rw[J1] at hj
    rw[List.getElem_take] at ej
    have:=(List.getElem_inj nd).mp ej
    omega
   generalize ts[i]=x at kR cY Aq
   refine⟨_,rfl,_,rfl,_,rfl,l,x,B,rfl,hB.same (s1.trans s2),gB,by omega,fun as p4 H4 s4 hp40 hp4 al ha hcv =>?_⟩
   have yc:∀{j:Nat} (hj:j<as.length),(as.map fun z=>V.ref z.1)[j]? = some (.ref as[j].1):=fun hj=>by rw[Jk,Jd hj];rfl
   refine⟨p4,rfl,⟨_,aK.of hp4⟩,?_⟩
   refine bo (N:=as.length) (fun j ys H'=>H'=H4/\ys=((as.take j).map (·.2.2)).map V.str) ⟨rfl,rfl⟩ ?_ ?_
   ·rintro j ys H5 Ny hj ⟨rfl,rfl⟩ ny
    refine⟨⟨_,_,aK.of hp4,yc hj⟩,small (by rw[Ja,Ja,J1];omega),?_⟩
    rintro y H6 ⟨rfl,hy⟩
    have e:=hy _ (aK.of hp4)
    rw[yc hj] at e;cases e
    have hz:=(ha _ (Jo hj)).1
    refine⟨_,_,rfl,fP.of hz,rfl,_,_,rfl,_,_,rfl,_,_,rfl,rfl,_,rfl,ny _ _ ⟨rfl,?_⟩⟩
    rw[aQ hj,Jl,Jl];rfl
   ·rintro ys H5 ⟨rfl,rfl⟩
    refine⟨⟨_,aK.of hp4,by rw[Ja];exact Je _⟩,fun p6 vY =>?_⟩
    rw[J3]
    have n6:dX H5 p6 (.lst ((as.map (·.2.2)).map V.str)) (upd H5 p6 (.lst ((as.map (·.2.2)).map V.str))):=⟨vY,rfl⟩
    generalize upd H5 p6 (.lst ((as.map (·.2.2)).map V.str))=H6 at n6 ⊢
    have HZ:=s4.trans n6.same
    have zl:zs.length=i:=by
     have:=congrArg Yj ez
     rw[Ja,J1] at this
     omega
    refine⟨zs.map B5,.inr x,HZ _ _ hD2,rfl,small (by rw[Ja];omega),ts.length-(i+1),by omega,zs++[(x,p6)],rfl,cF,fun b o e =>?_,?_,by rw[Jl,cY,ez];rfl,fun z hz =>?_⟩
    ·rw[ak (aq e hD)];exact HZ _ _ (s2 b o e)
    ·rw[dH _ (kr fun y hy e=>Aq ?_),Jl]
     ·exact ax
     ·rw[<-ez]
      have e:(Sum.inr y.1:Key) = .inr x:=e
      rw[<-Sum.inr.inj e]
      exact U5 hy
    ·have keep:∀{a:Addr} {o:List V},H6 a=some (.lst o)->upd H6 D (.dK (putK (zs.map B5) (.inr x) (.ref p6))) a=some (.lst o):=fun{a o} e=>by
      rw[ak (fun z=>by rw[z,HZ _ _ hD2] at e;cases e)];exact e
     rcases Jh.mp hz with hz|hz
     ·obtain⟨ls,h1,h2⟩:=lt2 z hz
      exact⟨ls,keep (HZ _ _ h1),h2⟩
     ·rw[Jg.mp hz]
      refine⟨as.map (·.2.2),keep n6.at,by rw[Ja];exact al,fun r=>⟨fun h =>?_,fun⟨q,hq,h⟩=>?_⟩⟩
      ·refine ae.el (Ug.mp h) _ ?_
       rintro y hy rfl
       refine ae.el (ha y hy) _ ?_
       rintro _ h1 h2
       exact⟨_,h1,h2⟩
      ·refine ae.el (hcv q hq r h) _ ?_
       rintro y hy _ e
       exact Ug.mpr ⟨y,hy,e⟩
  ·have e:i=ts.length:=by omega
   subst e
   rw[J3] at ez
   exact .inl ⟨⟨_,aK.of (s2 _ _ hW),by rw[Ja];exact Je _⟩,qn _ _ ⟨D,zs,rfl,s2,hD,hD2,ez,lt2⟩⟩
 intro v H2
 refine ae.go ?_
 rintro D zs rfl s2 hD0 hD2 ez lt2
 refine gn ?_
 refine fun d H3 n3=>gn ?_
 have N7:=s2.trans n3.same
 have oZ:H d=none:=by
  cases e:H d with
  | none=>rfl
  | some o=>have:=n3.nn;rw[s2 _ _ (s1 _ _ e)] at this;cases this
 have dD:D≠d:=aq hD2 n3.nn
 refine⟨_,rfl,p1,_,rfl,.inl (aK.of (N7 _ _ hW)),fun fp0 H4 n4=>gn ?_⟩
 have N5:=N7.trans n4.same
 rw[show(List.set _ _ _:L2.St)=[some (.ref l),some (.ref p1),some (.ref D),some (.ref d),some (.ref fp0)] from rfl]
 have Ma:∀{r:Str},r∈ts->∃a,aW (zs.map B5) (.inr r)=some (.ref a)/\(r,a)∈zs:=fun{r} hr=>by
  rw[<-ez] at hr
  refine ae.el (Ug.mp hr) _ ?_
  rintro z hz rfl
  refine⟨z.2,qq ?_ (Ug.mpr ⟨z,hz,rfl⟩),hz⟩
  have:(zs.map B5).map (·.1)=(zs.map (·.1)).map Sum.inr:=by rw[Y9,Y9];rfl
  rw[this,ez]
  exact Uz.mpr (Wg.mpr ((Uz.mp nd).imp fun h e=>h (Sum.inr.inj e)))
 dsimp only
 let J:Nat->L2.St->Hp->Prop:=fun m σ H'=>BM fun(lp fp:Addr) (left fs E:List Str) =>σ=[some (.ref l),some (.ref lp),some (.ref D),some (.ref d),some (.ref fp)]/\m=2*left.length+(if fs=[] then 0 else 1)/\aj H H'/\H' lp=some (.lst (left.map V.str))/\H' fp=some (.lst (fs.map V.str))/\fs.length<=200/\left.length<=200/\H' d=some (.dK (E.map dP))/\H' D=some (.dK (zs.map B5))/\iz B H' zs/\E.Nodup/\sq B E/\(∀r∈E,fw B r)/\(∀r∈left,fw B r/\r∉E)/\(∀r,fw B r->r∈left∨r∈E)/\(fs=[]->∀r∈left,∃q∈B,∃r',Bh q r r'/\r'∉E)
 refine cW (t:=lr _ _) (fun σ H'=>gO fun(lp fp:Addr) (E:List Str) =>σ=[some (.ref l),some (.ref lp),some (.ref D),some (.ref d),some (.ref fp)]/\aj H H'/\H' d=some (.dK (E.map dP))/\E.Nodup/\sq B E/\(∀r∈E,fw B r)/\∀r,fw B r->r∉E->∃q∈B,∃r',Bh q r r'/\r'∉E) (fun Nx nx =>?_) ?_
 ·refine oE J ⟨_,p1,fp0,ts,ts,[],rfl,rfl,s1.trans N5,N5 _ _ hW,n4.at,tl,tl,n4.same _ _ n3.at,n4.same _ _ (n3.same _ _ hD2),(lt2.same n3.same).same n4.same,Wm,(fun E1 r E2 e=>by cases E1<;>cases e),(fun r h=>nomatch h),fun r h=>⟨(mem r).mp h,(fun h=>nomatch h)⟩,fun r h =>.inl ((mem r).mpr h),fun h r hr=>by rw[h] at hr;cases hr⟩ ?_
  intro m σ H5
  refine ae.go ?_
  rintro lp fp left fs E rfl rfl s5 hlp hfp fl ll vg hD5 lt5 nd5 ord e1 e2 e3 e4
  have PV:D≠d:=dD
  refine⟨_,rfl, !(fs.map V.str).isEmpty,.inl ⟨_,aK.of hfp,rfl⟩,?_⟩
  by_cases hfs:fs=[]
  ·rw[hfs]
   exact bI (nx _ _ ⟨lp,fp,E,rfl,s5,vg,nd5,ord,e1,fun r hr hn=>e4 hfs r ((e3 r hr).resolve_right hn)⟩)
  ·have eT:(!(fs.map V.str).isEmpty)=true:=by cases fs with|nil=>exact absurd rfl hfs|cons _ _=>rfl
   rw[eT,if_neg hfs]
   refine bK ⟨fun σ' H'=>∃m',m'<2*left.length+1/\J m' σ' H',fun _ _ h=>h,?_⟩
   have HP:∀{H':Hp} {r:Str},H' d=some (.dK (E.map dP))->dz H' d (.str r) (aW (E.map dP) (.inr r)):=fun h =>.inl ⟨_,.inr _,.inl h,rfl,rfl⟩
   refine dc (te:=fY _ _ _ _ _ _) (fun v H'=>cq fun(Br:Addr) (nF:List Str)=>v = .ref Br/\aj H5 H'/\H5 Br=none/\H' Br=some (.lst (nF.map V.str))/\nF.length<=left.length/\∀r,r∈nF↔r∈left/\∀q∈B,∀r',Bh q r r'->r'∈E) (fun Qn qn =>?_) ?_
   ·refine⟨_,rfl,lp,rfl,⟨_,aK.of hlp⟩,?_⟩
    refine gu (N:=left.length) (fun i ys H'=>∃us:List Str,aj H5 H'/\ys=us.map V.str/\us.length<=i/\∀r,r∈us↔r∈left.take i/\∀q∈B,∀r',Bh q r r'->r'∈E) ⟨[],aj.refl _,rfl,Je _,fun r=>⟨(fun h=>nomatch h),fun h=>nomatch h.1⟩⟩ ?_ ?_
    ·intro i ys H6 Ny hi hz_ ny
     refine ae.el hz_ _ ?_
     clear hz_
     rintro us s6 rfl ul um
     refine⟨⟨_,_,aK.of (s6 _ _ hlp),jM hi⟩,small (by rw[Ja];omega),?_⟩
     rintro y H7 ⟨rfl,hy⟩
     have e:=hy _ (aK.of (s6 _ _ hlp))
     rw[jM hi] at e;cases e
     have kR:=(e2 _ (Jo hi)).1
     have cY:=aQ hi
     generalize left[i]=x at kR cY
     refine ae.el (Ma ((mem x).mpr kR)) _ ?_
     rintro a va hza
     refine ae.el ((lt5.same s6) _ hza) _ ?_
     rintro ls h1 h2 h3
     refine gn ⟨_,rfl,_,rfl,D,.ref a,rfl,.inl ⟨_,.inr x,.inl (s6 _ _ hD5),rfl,va.symm⟩,a,rfl,⟨_,aK.of h1⟩,?_⟩
     refine bo (N:=ls.length) (fun j ys H'=>H'=H7/\ys=((ls.take j).map fun r=>(aW (E.map dP) (.inr r)).isSome).map V.bl) ⟨rfl,rfl⟩ ?_ ?_
     ·rintro j ys H8 Nz hj ⟨rfl,rfl⟩ nz
      refine⟨⟨_,_,aK.of h1,jM hj⟩,small (by rw[Ja,Ja,J1];omega),?_⟩
      rintro y H9 ⟨rfl,hy⟩
      have e:=hy _ (aK.of h1)
      rw[jM hj] at e;cases e
      refine gn ⟨_,rfl,_,rfl,d,aW (E.map dP) (.inr ls[j]),rfl,HP (s6 _ _ vg),nz _ _ ⟨rfl,?_⟩⟩
      rw[aQ hj,Jl,Jl];rfl
     ·rintro ys H8 ⟨rfl,rfl⟩
      refine⟨⟨_,aK.of h1,by rw[Ja];exact Je _⟩,fun p9 uw =>?_⟩
      rw[J3]
      have n9:dX H8 p9 (.lst ((ls.map fun r=>(aW (E.map dP) (.inr r)).isSome).map V.bl)) (upd H8 p9 (.lst ((ls.map fun r=>(aW (E.map dP) (.inr r)).isSome).map V.bl))):=⟨uw,rfl⟩
      generalize upd H8 p9 (.lst ((ls.map fun r=>(aW (E.map dP) (.inr r)).isSome).map V.bl))=H9 at n9 ⊢
      refine⟨p9,_,rfl,aK.of n9.at,_,rfl,?_⟩
      have wC:(ls.map fun r=>(aW (E.map dP) (.inr r)).isSome).all id=true ↔ ∀q∈B,∀r',Bh q x r'->r'∈E:=by
       rw[List.all_map,Yh]
       exact⟨fun h q hq r' hb=>iq.mp (h r' ((h3 r').mpr ⟨q,hq,hb⟩)),fun h r' vE=>by
        refine ae.el ((h3 r').mp vE) _ ?_
        rintro q hq hb
        exact iq.mpr (h q hq r' hb)⟩
      have NQ:∀{r:Str},(r∈left.take (i+1)/\∀q∈B,∀r',Bh q r r'->r'∈E)↔(r∈us∨(r=x/\∀q∈B,∀r',Bh q r r'->r'∈E)):=fun{r}=>by
       rw[cY,Jh,Jg,um]
       exact⟨fun⟨h,g⟩=>h.elim (fun h =>.inl ⟨h,g⟩) fun h =>.inr ⟨h,g⟩,fun h=>h.elim (fun h=>⟨.inl h.1,h.2⟩) fun h=>⟨.inr h.1,h.2⟩⟩
      refine fe (fun c=>⟨_,rfl,ny _ _ ⟨us++[x],s6.trans n9.same,by rw[Jl];rfl,by rw[Jf];exact Wk ul,fun r =>?_⟩⟩) (fun c=>ny _ _ ⟨us,s6.trans n9.same,rfl,by omega,fun r =>?_⟩)
      ·rw[NQ,Jh,Jg]
       exact or_congr Iff.rfl ⟨fun h=>⟨h,h▸wC.mp c⟩,fun h=>h.1⟩
      ·rw[NQ]
       exact⟨.inl,fun h=>h.elim id fun h=>absurd (wC.mpr (h.1▸h.2)) c⟩
    ·intro ys H6
     refine ae.go ?_
     rintro us s6 rfl ul um
     rw[J3] at um
     refine⟨⟨_,aK.of (s6 _ _ hlp),by rw[Ja];exact Je _⟩,fun p7 H7 n7=>qn _ _ ⟨p7,us,rfl,s6.trans n7.same,?_,n7.at,ul,um⟩⟩
     cases e:H5 p7 with
     | none=>rfl
     | some o=>have:=n7.nn;rw[s6 _ _ e] at this;cases this
   intro v H6
   refine ae.go ?_
   rintro Br nF rfl s6 hfp0 hfp' fl' fm'
   refine gn ?_
   have vT:=s6 _ _ vg
   have O6:Br≠d:=fun z=>by rw[z,vT] at hfp';cases hfp'
   refine⟨_,rfl,.inr (.inr (.inl ⟨rfl,.inl ⟨_,vT⟩⟩)),?_⟩
   refine⟨_,rfl,Br,rfl,⟨_,aK.of hfp'⟩,fun D2 hD2' =>?_⟩
   have OS:d≠D2:=fun z=>by rw[z,hD2'] at vT;cases vT
   have OZ:H5 D2=none:=by
    cases e:H5 D2 with
    | none=>rfl
    | some o=>rw[s6 _ _ e] at hD2';cases hD2'
   refine⟨fun i m H'=>∃us:List Str,m=nF.length-i/\i<=nF.length/\aj H6 H'/\H' D2=some (.dK (us.map dP))/\us.length<=i/\∀r,r∈us↔r∈nF.take i,⟨_,[],rfl,Um _,bj hD2' _,ax,Je _,fun r=>⟨(fun h=>nomatch h),fun h=>nomatch h⟩⟩,?_⟩
   intro i m H7
   refine ae.go ?_
   rintro us rfl hi s7 hD7 ul um
   by_cases cF:i<nF.length
   ·refine .inr ⟨⟨_,_,aK.of (s7 _ _ hfp'),jM cF⟩,?_⟩
    rintro y H8 ⟨rfl,hy⟩
    have e:=hy _ (aK.of (s7 _ _ hfp'))
    rw[jM cF] at e;cases e
    refine gn ?_
    dsimp only[fh]
    rw[if_pos rfl]
    have cY:=aQ cF
    generalize nF[i]=x at cY
    refine⟨_,rfl,us.map dP,.inr x,hD7,rfl,small (by rw[Ja];omega),nF.length-(i+1),by omega,_,rfl,cF,fun b o e =>?_,by rw[jU];exact ax,?_,fun r =>?_⟩
    ·rw[ak (aq e hD2')];exact s7 b o e
    ·have:=qa (ts:=us) (r:=x);omega
    ·rw[lI,cY,Jh,Jg,um]
   have ei:i=nF.length:=by omega
   subst ei
   rw[J3] at um
   refine .inl ⟨⟨_,aK.of (s7 _ _ hfp'),by rw[Ja];exact Je _⟩,?_⟩
   have Cw:=s7 _ _ vT
   have El:E.length<=200:=Jr (bR nd5 fun x hx=>(mem x).mpr (e1 x hx)) tl
   refine⟨d,D2,_,_,rfl,rfl,OS,Cw,hD7,by rw[Ja,Ja];exact sizeOk (by omega),?_⟩
   refine ae.el (mh us E nd5) _ ?_
   rintro N h1 h2 hN h3
   have Hx:sq B (E++N):=ord.more fun r hr=>((fm' r).mp (Y2 (i:=nF.length) (by rw[J3];exact(um r).mp (hN r hr)))).2
   rw[h1]
   generalize E++N=E' at h1 h2 h3 Hx
   have c8:oG H7 d (.dK (E'.map dP)) (upd H7 d (.dK (E'.map dP))):=⟨rfl⟩
   generalize upd H7 d (.dK (E'.map dP))=H8 at c8
   have Ij:∀x,x∈E'↔x∈E∨x∈nF:=fun x=>by rw[h3,um]
   have zD:=s6.trans s7
   have keep:∀{a:Addr} {o:HO},a≠d->H5 a=some o->H8 a=some o:=fun ne e=>by rw[c8.ne ne];exact zD _ _ e
   have P2:lp≠d:=fun z=>by rw[z,vg] at hlp;cases hlp
   have zO:=keep P2 hlp
   have Pe:=keep PV hD5
   have QI:aj H H8:=fun b o e=>by rw[c8.ne (aq e oZ)];exact zD _ _ (s5 b o e)
   have Qq:iz B H8 zs:=(lt5.same zD).off Cw (.inr ⟨_,c8⟩)
   have IU:H8 Br=some (.lst (nF.map V.str)):=by rw[c8.ne O6];exact s7 _ _ hfp'
   dsimp only
   refine sM (te:=fY _ _ _ _ _ _) (fun v H'=>∃lp',v = .ref lp'/\dX H8 lp' (.lst ((left.filter fun r => !(aW (E'.map dP) (.inr r)).isSome).map V.str)) H') (fun Qn qn =>?_) ?_
   ·refine⟨_,rfl,lp,rfl,⟨_,aK.of zO⟩,?_⟩
    refine gu (N:=left.length) (fun i ys H'=>H'=H8/\ys=((left.take i).filter fun r => !(aW (E'.map dP) (.inr r)).isSome).map V.str) ⟨rfl,rfl⟩ ?_ ?_
    ·rintro i ys H9 Ny gP ⟨rfl,rfl⟩ ny
     refine⟨⟨_,_,aK.of zO,jM gP⟩,?_,?_⟩
     ·rw[Ja]
      have h1:=List.length_filter_le (fun r => !(aW (E'.map dP) (.inr r)).isSome) (left.take i)
      rw[J1] at h1
      exact small (by omega)
     rintro y H10 ⟨rfl,hy⟩
     have e:=hy _ (aK.of zO)
     rw[jM gP] at e;cases e
     have cY:=aQ gP
     generalize left[i]=x at cY
     cases hv:aW (E'.map dP) (.inr x) with
     | none=>
      refine gn ⟨_,rfl,_,rfl,d,none,rfl,.inl ⟨_,.inr x,.inl c8.at,rfl,hv.symm⟩,_,rfl,bK ⟨_,rfl,ny _ _ ⟨rfl,?_⟩⟩⟩
      rw[cY,List.filter_append,List.filter_cons,hv,if_pos (by rfl),Jl];rfl
     | some v=>
      refine gn ⟨_,rfl,_,rfl,d,some v,rfl,.inl ⟨_,.inr x,.inl c8.at,rfl,hv.symm⟩,_,rfl,bI (ny _ _ ⟨rfl,?_⟩)⟩
      rw[cY,List.filter_append,List.filter_cons,hv,if_neg (fun z=>nomatch z),List.filter_nil,U6]
    ·rintro ys H9 ⟨rfl,rfl⟩
     refine⟨⟨_,aK.of zO,by rw[Ja];exact Je _⟩,fun p H' n=>qn _ _ ⟨p,rfl,?_⟩⟩
     rw[J3] at n
     exact n
   intro v H9
   refine ae.go ?_
   rintro lp' rfl n9
   refine gn ?_
   have CH:∀r,r∈left.filter (fun r => !(aW (E'.map dP) (.inr r)).isSome)↔r∈left/\r∉E':=fun r=>by
    rw[List.mem_filter]
    refine and_congr Iff.rfl ⟨fun h z =>?_,fun h =>?_⟩
    ·rw[iq.mpr z] at h;cases h
    ·cases hs:(aW (E'.map dP) (.inr r)).isSome with
     | false=>rfl
     | true=>exact absurd (iq.mp hs) h
   have Q6:=List.length_filter_le (fun r => !(aW (E'.map dP) (.inr r)).isSome) left
   refine⟨2*(left.filter fun r => !(aW (E'.map dP) (.inr r)).isSome).length+(if nF=[] then 0 else 1),?_,lp',Br,_,nF,E',rfl,rfl,QI.trans n9.same,n9.at,n9.same _ _ IU,by omega,by omega,n9.same _ _ c8.at,n9.same _ _ Pe,Qq.same n9.same,h2,Hx,fun r hr =>?_,fun r hr =>?_,fun r hr =>?_,fun hE r hr =>?_⟩
   ·by_cases hf:nF=[]
    ·rw[if_pos hf];omega
    ·rw[if_neg hf]
     obtain⟨x,hx⟩:=List.exists_mem_of_ne_nil _ hf
     have:(left.filter fun r => !(aW (E'.map dP) (.inr r)).isSome).length<left.length:=by
      refine List.length_filter_lt_length_iff_exists.mpr ⟨x,((fm' x).mp hx).1,?_⟩
      rw[iq.mpr ((Ij x).mpr (.inr hx))];decide
     omega
   ·rcases(Ij r).mp hr with h|h
    ·exact e1 r h
    ·exact(e2 r ((fm' r).mp h).1).1
   ·obtain⟨a1,a2⟩:=(CH r).mp hr
    exact⟨(e2 r a1).1,a2⟩
   ·rcases e3 r hr with h|h
    ·by_cases z:r∈E'
     ·exact .inr z
     ·exact .inl ((CH r).mpr ⟨h,z⟩)
    ·exact .inr ((Ij r).mpr (.inl h))
   ·obtain⟨a1,a2⟩:=(CH r).mp hr
    have zz:¬ ∀q∈B,∀r',Bh q r r'->r'∈E:=fun h=>by
     have:=(fm' r).mpr ⟨a1,h⟩
     rw[hE] at this;cases this
    refine Classical.byContradiction fun z=>zz fun q hq r' hb =>?_
    refine Classical.byContradiction fun hn=>z ⟨q,hq,r',hb,fun h =>?_⟩
    rcases(Ij r').mp h with h|h
    ·exact hn h
    ·rw[hE] at h;cases h
 intro σ H5
 refine ae.go ?_
 rintro lp fp E rfl s5 vg nd5 ord e1 e2
 exact⟨_,rfl,q d E H5 s5 oZ vg nd5 ord e1 e2⟩
end
theorem fw.Ei {B:List (Str×Str)}(g:eS B){r:Str}(h:fw B r):r.length<=12/\1<=r.length:=by
 obtain⟨q,hq,a,a1,a2,e⟩:=h
 have h1:=(g.cd q hq).le
 have e1:q.2.length=(sg q.2).length:=str_len _
 have e2:r.length=(sg r).length:=str_len _
 rw[e,Ui] at e2
 omega
noncomputable abbrev Sg:=List Nat
def Lt (c x r:Sg):Prop:=r≠[]/\(x=c++r∨c=x++r)
inductive En (cs:List Sg):Sg->Prop
 | mk (x:Sg) (h:∀c∈cs,∀r,Lt c x r->En cs r):En cs x
noncomputable abbrev nI (ns:List Nat):List V:=ns.map fun n=>V.int (n:Nat)
theorem d7 (x y:Str):Txt.startswith x y=true↔sg y <+: sg x:=by
 have hl:y.length=(sg y).length:=str_len y
 have hx:x.length=(sg x).length:=str_len x
 have e:(x.cps.extract 0 (0+y.length)==y.cps)=true↔(sg x).take y.length=sg y:=by
  rw[beq_iff_eq,<-Array.toList_inj]
  simp[Array.toList_extract]
 show(decide (0+y.length<=x.length)&&(x.cps.extract 0 (0+y.length)==y.cps))=true↔_
 rw[Uv,decide_eq_true_iff,e]
 constructor
 ·rintro⟨_,h⟩
  rw[<-h]
  exact List.take_prefix _ _
 ·intro h
  exact⟨by have:=h.length_le;omega,by rw[hl];exact(List.prefix_iff_eq_take.mp h).symm⟩
theorem tJ {x y:Str}(c:sg x <+: sg y):sg y=sg x++sg (Txt.slice y (some ((x.length:Nat):Int)) none):=by
 rw[dE,show x.length=(sg x).length from str_len x]
 exact List.prefix_iff_eq_append.mp c |>.symm
theorem nZ {r:Str}:sg r=[]↔r = "":=⟨fun h=>dq (by rw[h];rfl),fun h=>by rw[h];rfl⟩
theorem nR {q:Str×Str}{x r:Str}:Bh q x r↔Lt (sg q.2) (sg x) (sg r):=by
 unfold Bh iO Lt
 rw[show(sg r≠[])↔(r ≠ "") from not_congr nZ]
 by_cases c1:Txt.startswith x q.2=true
 ·rw[if_pos c1]
  have e:=tJ ((d7 _ _).mp c1)
  refine⟨fun⟨h,n⟩=>⟨n,.inl ?_⟩,fun⟨n,h⟩=>⟨?_,n⟩⟩
  ·injection h with h;rw[<-h];exact e
  ·congr 1
   refine dq ?_
   rcases h with h|h
   ·rw[h] at e;exact(List.append_cancel_left e).symm
   ·exfalso
    have l1:=congrArg Yj h
    have l2:=congrArg Yj e
    rw[Jf] at l1 l2
    have:sg r=[]:=J5 (by omega)
    exact n (nZ.mp this)
 ·rw[if_neg c1]
  by_cases c2:Txt.startswith q.2 x=true
  ·rw[if_pos c2]
   have e:=tJ ((d7 _ _).mp c2)
   refine⟨fun⟨h,n⟩=>⟨n,.inr ?_⟩,fun⟨n,h⟩=>⟨?_,n⟩⟩
   ·injection h with h;rw[<-h];exact e
   ·congr 1
    refine dq ?_
    rcases h with h|h
    ·exact absurd ((d7 _ _).mpr ⟨_,h.symm⟩) c1
    ·rw[h] at e;exact(List.append_cancel_left e).symm
  ·rw[if_neg c2]
   refine⟨(fun h=>nomatch h.1),fun⟨_,h⟩=>?_⟩
   rcases h with h|h
   ·exact absurd ((d7 _ _).mpr ⟨_,h.symm⟩) c1
   ·exact absurd ((d7 _ _).mpr ⟨_,h.symm⟩) c2
noncomputable abbrev D5 (B:List (Str×Str)):List Sg:=(B.map (·.2)).map sg
noncomputable def toS (s:Sg):Str:=⟨s.toArray⟩
theorem xC (s:Sg):sg (toS s)=s:=by show s.toArray.toList=s;exact List.toList_toArray
theorem uk {B:List (Str×Str)}{c:Sg}:c∈D5 B ↔ ∃q∈B,sg q.2=c:=by
 unfold D5
 rw[Y9,Ug];rfl
theorem fw.lt {B:List (Str×Str)}{q:Str×Str}{x r:Str}(hq:q∈B)(hx:fw B x)(h:Bh q x r):fw B r:=by
 obtain⟨n,h⟩:=nR.mp h
 have hn:0<(sg r).length:=List.length_pos_iff.mpr n
 rcases h with h|h
 ·obtain⟨q',oj,a,a1,a2,e⟩:=hx
  refine⟨q',oj,a+(sg q.2).length,by omega,?_,?_⟩
  ·have:=congrArg Yj (e.symm.trans h)
   rw[Ui,Jf] at this
   omega
  ·have:(sg x).drop (sg q.2).length=sg r:=by rw[h,List.drop_left]
   rw[<-this,e,List.drop_drop]
 ·refine⟨q,hq,(sg x).length,?_,?_,?_⟩
  ·obtain⟨q',oj,a,a1,a2,e⟩:=hx
   rw[e,Ui];omega
  ·rw[h,Jf];omega
  ·rw[h,List.drop_left]
theorem En.mem {B:List (Str×Str)}{E:List Str}(ek:∀r,fw B r->r∉E->∃q∈B,∃r',Bh q r r'/\r'∉E){s:Sg}(h:En (D5 B) s):∀r,fw B r->sg r=s->r∈E:=by
 induction h with
 | mk s h ih=>
  intro r hr e
  refine Classical.byContradiction fun hn =>?_
  obtain⟨q,hq,r',hb,hn'⟩:=ek r hr hn
  exact hn' (ih (sg q.2) (uk.mpr ⟨q,hq,rfl⟩) (sg r') (by rw[<-e];exact nR.mp hb) r' (hr.lt hq hb) rfl)
def D8 (a b r:Str):Prop:=(b.length<a.length/\sg r=(sg a).drop b.length)∨(a.length<=b.length/\sg r=(sg b).drop a.length)
def wk:Sp:=fun vs H Q _=>cq fun(a b:Str)=>vs=[.str a,.str b]/\a.length<=1000000/\b.length<=1000000 /\
 ∀(v:V) (H':Hp),aj H H'->(v = .non∨∃r,v = .str r/\D8 a b r)->Q v H'
def yo (a b r:Str):Prop:=sg a=sg b++sg r∨sg b=sg a++sg r
def pQ:Sp:=fun vs H Q _=>cq fun(a b:Str)=>vs=[.str a,.str b]/\a.length<=1000000/\b.length<=1000000 /\
 ∀(v:V) (H':Hp),aj H H'->((v = .non/\∀r,¬yo a b r)∨∃r,v = .str r/\yo a b r)->Q v H'
theorem yo.lf {a b r:Str}(h:yo a b r):D8 a b r:=by
 have ea:a.length=(sg a).length:=str_len a
 have eb:b.length=(sg b).length:=str_len b
 rcases h with h|h
 ·by_cases c:b.length<a.length
  ·exact .inl ⟨c,by rw[h,eb,List.drop_left]⟩
  ·have hl:=congrArg Yj h
   rw[Jf] at hl
   have hr:sg r=[]:=J5 (by omega)
   exact .inr ⟨by omega,by rw[hr,List.drop_of_length_le (by omega)]⟩
 ·have hl:=congrArg Yj h
  rw[Jf] at hl
  exact .inr ⟨by omega,by rw[h,ea,List.drop_left]⟩
theorem yA {vs:List V}{H:Hp}{Q:VK}{E:XK}(h:wk vs H Q E):pQ vs H Q E:=by
 obtain⟨a,b,e,ha,hb,q⟩:=h
 exact⟨a,b,e,ha,hb,fun v H' s hv=>q v H' s (hv.imp (fun z=>z.1) fun⟨r,e,h⟩=>⟨r,e,h.lf⟩)⟩
section
variable {P:Program}{w:World}{K:Jb}{mg:Str->Option Value}{base:Heap}{f:Addr}{fd:FuncData}
theorem gD:aO ["_law_one", "_law_other", "_law_longer", "_law_shorter"] ["_law_one", "_law_other"] (aA (top ij)):=⟨rfl,rfl,rfl,by decide +kernel,rfl,by decide +kernel,by decide +kernel⟩
theorem Dq (F:dj K "_law_left" "_law_left" (top ij) f fd)(T:Nm mg):bW P w K mg base fI 1 f fd ["_law_one", "_law_other"] pQ:=by
 refine F.ok gD (fun vs H Q E h =>?_) (fun dZ A outer s H vs Q E hr h =>?_)
 ·obtain⟨a,b,rfl,_⟩:=h
  rfl
 unfold pQ at h
 refine ae.el h _ ?_
 clear h
 rintro a b rfl ha hb q
 have eK:=hr.units
 refine⟨_,(ah (ke (kJ (aI FY (aw (dy K) rfl T.n_len (by rfl) (aa (pv 0) ag)) (aw (dy K) rfl T.n_len (by rfl) (aa (pv 1) ag)) (aL _)) (fT (aa (pv 0) (aa (pv 1) ag))) (fT (aa (pv 1) (aa (pv 0) ag)))) (tupK K 2 rfl (aG (av (i:=2) gD.nd rfl (Or.inl rfl)) (aG (av (i:=3) gD.nd rfl (Or.inl rfl)) cy))))
  (au (aJ (kJ (aI (ur K eK) (bg (oU K) (pv 2) bB (bw (aw (dy K) rfl T.n_len (by rfl) (aa (pv 3) ag)))) (pv 3) (aL _)) (bg (oU K) (pv 2) (bw (aw (dy K) rfl T.n_len (by rfl) (aa (pv 3) ag))) bB) e7)))),?_⟩
 have Ri:a.length=(sg a).length:=str_len a
 have Q4:b.length=(sg b).length:=str_len b
 refine dc (te:=NT _ _ _) (fun v H'=>gO fun(z:Addr) (x y:Str)=>v = .ref z/\aj H H'/\H' z=some (.tup [.str x,.str y])/\x.length<=1000000/\y.length<=x.length/\∀r,yo a b r↔sg x=sg y++sg r) (fun Qn qn =>?_) ?_
 ·refine⟨_,rfl,_,_,rfl,⟨sizeOk (by omega),rfl⟩,_,rfl,_,_,rfl,⟨sizeOk (by omega),rfl⟩,_,_,rfl,rfl,_,rfl,fe (fun c =>?_) (fun c =>?_)⟩
  ·have c:=of_decide_eq_true c
   refine⟨_,rfl,_,rfl,by show 2<=sizeLine;decide,fun z H1 n1=>qn _ _ ⟨z,a,b,rfl,n1.same,n1.at,ha,by omega,fun r=>⟨fun h=>h.elim id fun h =>?_,.inl⟩⟩⟩
   have hl:=congrArg Yj h
   rw[Jf] at hl
   omega
  ·have c:¬(b.length:Int)<a.length:=fun z=>c (decide_eq_true z)
   refine⟨_,rfl,_,rfl,by show 2<=sizeLine;decide,fun z H1 n1=>qn _ _ ⟨z,b,a,rfl,n1.same,n1.at,hb,by omega,fun r=>⟨fun h=>h.elim (fun h =>?_) id,.inr⟩⟩⟩
   have hl:=congrArg Yj h
   rw[Jf] at hl
   have hr:sg r=[]:=J5 (by omega)
   rw[hr,U6] at h ⊢
   exact h.symm
 intro v H1
 refine ae.go ?_
 rintro z x y rfl s1 hz hx hy hL
 refine⟨z,_,rfl,fP.of hz,rfl,_,_,rfl,_,_,rfl,rfl,?_⟩
 have es:=dE (x:=x) y.length
 have et:=Bv (x:=x) (j:=(y.length:Nat)) (by omega) (by omega)
 have ly:y.length=(sg y).length:=str_len y
 refine⟨_,rfl,?_⟩
 dsimp only[cU]
 refine⟨_,rfl,_,_,rfl,⟨sizeOk (by omega),rfl⟩,_,rfl,.inr ⟨x,rfl,sizeOk (by omega),_,rfl,.inl ⟨rfl,_,rfl,fe (fun c =>?_) (fun c=>q _ _ s1 (.inl ⟨rfl,fun r h=>c ?_⟩))⟩⟩⟩
 ·have c:=of_decide_eq_true c
  injection c with c
  refine⟨_,rfl,_,rfl,_,_,rfl,⟨sizeOk (by omega),rfl⟩,_,rfl,?_⟩
  dsimp only[cU]
  refine .inr ⟨x,rfl,sizeOk (by omega),q _ _ s1 (.inr ⟨_,rfl,(hL _).mpr ?_⟩)⟩
  rw[es]
  have c':sg (Txt.slice x none (some ((y.length:Nat):Int)))=sg y:=congrArg sg c
  rw[et] at c'
  rw[<-c']
  have e:((y.length:Nat):Int).toNat=y.length:=by omega
  rw[e,ly]
  exact(Ye _ _).symm
 ·refine decide_eq_true ?_
  congr 1
  refine dq ?_
  show sg (Txt.slice x none (some ((y.length:Nat):Int)))=sg y
  rw[et,(hL r).mp h]
  have e:((y.length:Nat):Int).toNat=(sg y).length:=by omega
  rw[e,List.take_left]
end
open PySem.W
noncomputable abbrev dY:Expr:=CZ (dA (top cV))
noncomputable abbrev qo:Str:=Str.ofString "_law_lags" ++ Str.ofString ".<locals>." ++ Str.ofString "<lambda>"
def oI (K:Jb)(T:Addr)(pos:Pos):Sp:=fun vs H Q _=>gO fun(l:Addr) (B:List (Str×Str)) (ps:Array Value)=>vs=[.ref l]/\aK K H l ((B.map (·.2)).map V.str)/\eS B/\H T=some (.tbl ps)/\Tab H pos qo ps /\
 ∀(ts:List Str) (p:Addr) (rD:Array Value) (H':Hp),(∀b o,b≠T->H b=some o->H' b=some o)->H p=none->H' p=some (.lst (ts.map V.str))->H' T=some (.tbl rD)->Tab H' pos qo rD->ts.Nodup->ts.length<=200->(∀r,r∈ts↔fw B r)->ts.Pairwise (fun a b =>¬fO b a)->Q (.ref p) H'
theorem D8.P9 {B:List (Str×Str)}{x r:Str}{q:Str×Str}(hq:q∈B)(hx:fw B x)(h:D8 x q.2 r)(ne:r ≠ ""):fw B r:=by
 have hr:(sg r).length≠0:=fun z=>ne (dq (by rw[J5 z];rfl))
 obtain⟨q',oj,a,a1,a2,e⟩:=hx
 have lx:x.length=(sg x).length:=str_len _
 have lq:q.2.length=(sg q.2).length:=str_len _
 rcases h with ⟨h1,h2⟩|⟨h1,h2⟩
 ·refine⟨q',oj,a+q.2.length,by omega,?_,by rw[h2,e,List.drop_drop]⟩
  rw[h2,e,List.drop_drop,Ui] at hr
  omega
 ·refine⟨q,hq,x.length,?_,?_,h2⟩
  ·rw[lx,e,Ui];omega
  ·rw[h2,Ui] at hr;omega
theorem m6 {B:List (Str×Str)}(g:eS B){r:Str}(h:fw B r):iB r:=fun ch hc=>by
 obtain⟨q,hq,a,_,_,e⟩:=h
 have hc:ch∈sg r:=hc
 rw[e] at hc
 exact(g.cd q hq).bin ch (Y3 hc)
theorem sR {H H':Hp}{q:Str}{c:Addr}(h:uW H q c)(s:aj H H'):uW H' q c:=by
 obtain⟨o,vs,t,h1,h2⟩:=h
 exact⟨o,vs,t,s _ _ h1,h2⟩
theorem eC {H H':Hp}{pos:Pos}{q:Str}{ps:Array Value}(h:Tab H pos q ps)(s:aj H H'):Tab H' pos q ps:=h.imp id fun⟨c,e,k⟩=>⟨c,e,sR k s⟩
theorem yx {H H':Hp}{q:Str}{args:Arguments}{body:Expr}{scope:Scope}{f:Addr}(h:tm H q args body scope f)(s:aj H H'):tm H' q args body scope f:=by
 obtain⟨pm,c,ct,h1,h2⟩:=h
 exact⟨pm,c,ct,s _ _ h1,sR h2 s⟩
section
variable {P:Program}{w:World}{K:Jb}{mg:Str->Option Value}{base:Heap}{f c0 T0:Addr}{fd:FuncData}
theorem dI:aO ["_law_codes", "_law_found", "_law_waiting", "_law_code", "_law_lag", "_law_lefts"] ["_law_codes"] (aA (top cV)):=⟨rfl,rfl,rfl,by decide +kernel,rfl,by decide +kernel,by decide +kernel⟩
theorem AN (F:dj K "_law_lags" "_law_lags" (top cV) f fd)(T:Nm mg)(dg:mg "sorted" = none)(A3:fd.code = .ref c0)(GH:CodeHd base c0 T0)(Fp:base.BuiltinsAt mg T0)(GU:mainGlobals≠T0)(iu:Fn P w K mg base 1 "_law_left" ["_law_one", "_law_other"] wk):bW P w K mg base fI 5 f fd ["_law_codes"] (oI K T0 (fD dY)):=by
 refine F.P8 dI (fun vs H Q E h =>?_) (fun A outer s H vs Q E hr h =>?_)
 ·obtain⟨l,B,ps,rfl,_⟩:=h
  rfl
 unfold oI at h
 refine ae.el h _ ?_
 clear h
 rintro l B ps rfl hl gB hT tab q
 have hu:=jB hr
 have eK:=hr.units
 refine⟨_,(ah (xi (i:=1) (j:=2) rfl dI.nd rfl rfl (by decide) rfl rfl (aa xa (aa (eP ag) ag)) rfl)
  (ah (fH PassesOwn.never rfl (iA K (pv 0)) (av (i:=3) dI.nd rfl (Or.inr rfl)) (au (gK (vK K PySem.F.plainAttrs_list PySem.F.slot_list_extend PySem.F.type_list_extend sX (pv 2) (aa (br rfl (aM (Nc:=["_law_place"]) (Fc:=["_law_code"]) (js:=[3])) (jt rfl T.n_range (aa ao (aa (aw (dy K) rfl T.n_len (by rfl) (aa (pv 3) ag)) ag))) (az (i:=0) (n:=1) (by decide)) (fun _ _ _ _ _=>(av (i:=0) (d4 ["_law_place", "_law_code"]) rfl (Or.inl rfl))) (fun _ _ _ _ _=>aX) (fun _ _ _ _ _=>(bg (oU K) (pv 1) (bw (pv 0)) bB))) ag)))))
  (ah (lE PassesOwn.never (aI (tE K eK) (pv 2) (eP ag) (aL _)) (ah (aN (i:=4) dI.nd rfl (Or.inr rfl) (M1 K PySem.F.plainAttrs_list PySem.F.slot_list_pop PySem.F.type_list_pop M4 (pv 2)))
  (au (bS (q5 (mY hu (pv 4) (pv 1))) (ah (om hu (pv 1) (pv 4) dk rfl)
  (ah (bV (i:=5) dI.nd rfl (Or.inl rfl) rfl (aM (Nc:=["_law_code"]) (Fc:=["_law_lag"]) (js:=[4])) (iA K (pv 0)) (az (i:=0) (n:=1) (by decide)) (fun _ _ _ _ _=>(av (i:=0) (d4 ["_law_code", "_law_lag"]) rfl (Or.inl rfl))) (fun _ _ _ _ _=>aX) (fun _ _ _ _ _=>(aP (iu.mono (by decide)) hr rfl (aa (pv 1) (aa (pv 0) ag)))))
  (au (gK (vK K PySem.F.plainAttrs_list PySem.F.slot_list_extend PySem.F.type_list_extend sX (pv 2) (aa (br rfl (aM (Nc:=["_law_left_here"]) (Fc:=[]) (js:=[])) (iA K (pv 5)) (az (i:=0) (n:=1) (by decide)) (fun _ _ _ _ _=>(av (i:=0) (d4 ["_law_left_here"]) rfl (Or.inl rfl))) (fun _ _ _ _ _=>(iD (PW.pt (iw (aI ou (pv 0) e7 (aL _)) (gI (aI (tE K eK) (pv 0) bu (aL _))))))) (fun _ _ _ _ _=>(pv 0))) ag)))))) aV))))
  (au (aJ (ju (xt rfl fun _=>A0 (k:=0) (q:=qo) (args:=Ab dY) (body:=zF dY) (scope:=xN dY) (N:=["_law_lag"]) (ps:=["_law_lag"]) ⟨rfl,rfl,rfl,by decide +kernel,rfl,by decide +kernel,by decide +kernel⟩ rfl (hr.mono (by decide)) (fun _ _ _ _=>rfl) fun _ _ _ _ _ hr=>(fT (aa (aw (dy K) rfl T.n_len (by rfl) (aa (pv 0) ag)) (aa (pv 0) ag)))) rfl dg (by rfl) (aa (pv 1) ag) (mZ (CS A3 GH Fp GU) rH))))))),?_⟩
 have small:∀{n:Nat},n<=1000->n<sizeLine:=fun h=>Ub h (by decide)
 have hle:=gB.le
 have Qr:((B.map (·.2)).map V.str).length=B.length:=by rw[Ja,Ja]
 have Ia:∀{i:Nat} (hi:i<B.length),((B.map (·.2)).map V.str)[i]? = some (.str B[i].2):=fun hi=>by rw[Jk,Jk,Jd hi];rfl
 refine fun d H1 n1=>⟨by show 0<=sizeLine;decide,fun wp H2 n2=>⟨_,_,rfl,?_⟩⟩
 have s2:=n1.same.trans n2.same
 have hd2:=n2.same _ _ n1.at
 have oZ:H d=none:=n1.nn
 have Kk:H wp=none:=n1.back n2.nn
 have dw:d≠wp:=aq n1.at n2.nn
 dsimp only
 refine cW (t:=qQ _ _ _) (fun σ H'=>cq fun(x3:Option V) (ws:List Str) =>σ=[some (.ref l),some (.ref d),some (.ref wp),x3,none,none]/\aj H H'/\H' d=some (.dK [])/\H' wp=some (.lst (ws.map V.str))/\ws.length<=200/\∀r,r∈ws↔fw B r) (fun Nx nx =>?_) ?_
 ·refine⟨_,rfl,l,rfl,⟨_,s2.seq hl⟩,?_⟩
  refine hX (N:=B.length) (fun i σ H'=>cq fun(x3:Option V) (ws:List Str) =>σ=[some (.ref l),some (.ref d),some (.ref wp),x3,none,none]/\aj H H'/\H' d=some (.dK [])/\H' wp=some (.lst (ws.map V.str))/\ws.length<=12*i/\∀r,r∈ws↔fw (B.take i) r) ⟨none,[],rfl,s2,hd2,n2.at,Je _,fun r=>⟨(fun h=>nomatch h),fun⟨q,hq,_⟩=>nomatch hq⟩⟩ ?_ ?_
  ·intro i σ H3 hi
   refine ae.go ?_
   rintro x3 ws rfl s3 Bm hw3 wl wm
   refine⟨⟨_,_,s3.seq hl,Ia hi⟩,?_⟩
   rintro y H4 ⟨rfl,hy⟩
   have e:=hy _ (s3.seq hl)
   rw[Ia hi] at e;cases e
   refine gn ?_
   have hc:=(gB.cd _ (Jo hi)).le
   have cY:=aQ hi
   generalize B[i]=z at hc cY
   have Fy:z.2.length=(sg z.2).length:=str_len _
   have sf:=fun j:Nat=>dE (x:=z.2) (1+j)
   refine⟨_,rfl,.inl ⟨rfl,_,aK.of hw3⟩,_,rfl,_,_,rfl,⟨sizeOk (by omega),rfl⟩,1,(z.2.length:Nat),rfl,⟨by omega,by omega,by omega,by omega⟩,?_⟩
   refine bo (N:=z.2.length-1) (fun k ys H'=>H'=H4/\ys=((Uu k).map fun j=>Txt.slice z.2 (some ((1+j:Nat):Int)) none).map V.str) ⟨rfl,rfl⟩ ?_ ?_
   ·rintro k ys H5 Ny hk ⟨rfl,rfl⟩ ny
    refine⟨by show k<_;omega,small (by rw[Ja,Ja,Yf];omega),?_⟩
    rintro y H6 ⟨rfl,rfl⟩
    refine gn ?_
    dsimp only[fh]
    rw[if_pos rfl]
    refine⟨_,rfl,_,rfl,_,rfl,?_⟩
    dsimp only[cU]
    refine .inr ⟨z.2,rfl,sizeOk (by omega),ny _ _ ⟨rfl,?_⟩⟩
    rw[List.range_succ,Jl,Jl,show((1:Int)+(k:Int))=((1+k:Nat):Int) by omega];rfl
   ·rintro ys H5 ⟨rfl,rfl⟩
    refine⟨by show _<=_;omega,fun p hp =>?_⟩
    obtain⟨es,yO⟩:∃es,es=(Uu (z.2.length-1)).map fun j=>Txt.slice z.2 (some ((1+j:Nat):Int)) none:=⟨_,rfl⟩
    rw[<-yO]
    obtain⟨H6,n6⟩:∃H6,dX H5 p (.lst (es.map V.str)) H6:=⟨_,hp,rfl⟩
    rw[<-n6.eq]
    have el:es.length<=12:=by rw[yO,Ja,Yf];omega
    have em:∀r,r∈es ↔ ∃a,1<=a/\a<(sg z.2).length/\sg r=(sg z.2).drop a:=fun r=>by
     rw[yO,Ug]
     refine⟨fun⟨j,hj,e⟩=>⟨1+j,by omega,by have:=Yr.mp hj;omega,by rw[<-e];exact sf j⟩,fun⟨a,a1,a2,e⟩=>⟨a-1,Yr.mpr (by omega),dq ?_⟩⟩
     rw[e,sf,show 1+(a-1)=a by omega]
    have Im:=n6.same _ _ hw3
    refine⟨wp,p,_,_,rfl,rfl,Im,n6.at,by rw[Ja,Ja];exact sizeOk (by omega),fun H7 c7=>⟨_,ws++es,rfl,fun b o e =>?_,?_,?_,by rw[Jf];omega,fun r =>?_⟩⟩
    ·rw[c7.ne (aq e Kk)];exact n6.same _ _ (s3 b o e)
    ·rw[c7.ne dw];exact n6.same _ _ Bm
    ·rw[c7.at,Jl]
    ·rw[Jh,wm,em,cY]
     refine⟨fun h =>?_,fun⟨q,hq,h⟩=>?_⟩
     ·rcases h with ⟨q,hq,h⟩|h
      ·exact⟨q,Uc _ hq,h⟩
      ·exact⟨z,Ji _ (Jg.mpr rfl),h⟩
     ·rcases Jh.mp hq with hq|hq
      ·exact .inl ⟨q,hq,h⟩
      ·rw[Jg.mp hq] at h;exact .inr h
  ·intro σ H3
   refine ae.go ?_
   rintro x3 ws rfl s3 Bm hw3 wl wm
   rw[J3] at wm
   exact⟨⟨_,s3.seq hl,by omega⟩,nx _ _ ⟨x3,ws,rfl,s3,Bm,hw3,by omega,wm⟩⟩
 intro σ H3
 refine ae.go ?_
 rintro x3 ws rfl s3 Bm hw3 wl wm
 let J:Nat->L2.St->Hp->Prop:=fun m σ H'=>pW fun(x4 x5:Option V) (us ws:List Str) =>σ=[some (.ref l),some (.ref d),some (.ref wp),x3,x4,x5]/\aj H H'/\H' d=some (.dK (us.map dP))/\H' wp=some (.lst (ws.map V.str))/\us.Nodup/\(∀r∈us,fw B r)/\(∀r∈ws,fw B r)/\(∀r,fw B r->r∈us∨r∈ws)/\ws.length<=200+20*us.length/\m=ws.length+20*(200-us.length)
 refine cW (t:=lr _ _) (fun σ H'=>gO fun(x4 x5:Option V) (us:List Str) =>σ=[some (.ref l),some (.ref d),some (.ref wp),x3,x4,x5]/\aj H H'/\H' d=some (.dK (us.map dP))/\us.Nodup/\us.length<=200/\∀r,r∈us↔fw B r) (fun Nx nx =>?_) ?_
 ·refine oE J ⟨_,none,none,[],ws,rfl,s3,Bm,hw3,Wm,(fun r h=>nomatch h),fun r h=>(wm r).mp h,fun r h =>.inr ((wm r).mpr h),by show ws.length<=200+20*0;omega,rfl⟩ ?_
  intro m σ H4
  refine ae.go ?_
  rintro x4 x5 us vs rfl s4 Gq hw4 nd e1 e2 e3 vl rfl
  have Di:∀x∈vs,iB x:=fun x hx=>m6 gB (e2 x hx)
  refine⟨_,rfl,by show 0<=sizeLine;decide,fun p5 H5 n5 =>.inr ⟨_,_,Den.list (aK.of (n5.same _ _ hw4)) (Den.strs _),Den.list (aK.of n5.at) (by unfold aB;rfl),oM Di,rf,_,rfl,?_⟩⟩
  rw[iY]
  have s5:=s4.trans n5.same
  have vg:=n5.same _ _ Gq
  have LO:=n5.same _ _ hw4
  have Mk:us.length<=200:=Jr (bR nd fun x hx=>(wm x).mpr (e1 x hx)) wl
  by_cases hv:vs=[]
  ·have e:(!vs.isEmpty)=false:=by rw[hv];rfl
   rw[e]
   refine bI (nx _ _ ⟨x4,x5,us,rfl,s5,vg,nd,Mk,fun r=>⟨e1 r,fun h=>(e3 r h).resolve_right ?_⟩⟩)
   rw[hv];exact fun z=>nomatch z
  obtain⟨ws',x,rfl⟩:∃ws' x,vs=ws'++[x]:=⟨_,_,(List.dropLast_concat_getLast hv).symm⟩
  have e:(!(ws'++[x]).isEmpty)=true:=by cases ws'<;>rfl
  rw[e]
  have hx:=e2 x (Ji _ (Jg.mpr rfl))
  have mq:=hx.Ei gB
  rw[Jf] at vl
  have vl:ws'.length+1<=200+20*us.length:=vl
  refine bK ⟨fun σ' H'=>∃m',m'<(ws'++[x]).length+20*(200-us.length)/\J m' σ' H',fun _ _ h=>h,?_⟩
  rw[Jl] at LO
  refine⟨_,rfl,.inl ⟨rfl,_,aK.of LO⟩,wp,_,.str x,rfl,rfl,LO,?_,fun H6 c6=>gn ?_⟩
  ·rw[Jf,Jz (by show _<=_+1-1;omega)]
   show[V.str x][(ws'.map V.str).length+1-1-(ws'.map V.str).length]? = _
   rw[show(ws'.map V.str).length+1-1-(ws'.map V.str).length=0 by omega];rfl
  have Im:H6 wp=some (.lst (ws'.map V.str)):=by rw[c6.at];exact congrArg (fun l=>some (HO.lst l)) List.dropLast_concat
  have vT:H6 d=some (.dK (us.map dP)):=by rw[c6.ne dw];exact vg
  have s6:aj H H6:=fun b o e=>by rw[c6.ne (aq e Kk)];exact s5 b o e
  dsimp only
  by_cases kO:x∈us
  ·refine⟨_,rfl,_,rfl,d,_,rfl,.inl ⟨_,.inr x,.inl vT,rfl,rfl⟩,_,rfl,?_⟩
   rw[iq.mpr kO]
   refine bI ⟨ws'.length+20*(200-us.length),by rw[Jf];show _<_+1+_;omega,_,_,us,ws',rfl,s6,vT,Im,nd,e1,fun r h=>e2 r (Uc _ h),fun r h =>?_,by omega,rfl⟩
   rcases e3 r h with z|z
   ·exact .inl z
   ·rcases Jh.mp z with z|z
    ·exact .inr z
    ·rw[Jg.mp z];exact .inl kO
  have eN:(aW (us.map dP) (.inr x)).isSome=false:=by
   cases hs:(aW (us.map dP) (.inr x)).isSome with
   | false=>rfl
   | true=>exact absurd (iq.mp hs) kO
  have Bq:(us++[x]).Nodup:=by have:=oT (r:=x) nd;rwa[if_neg kO] at this
  have NS:us.length+1<=200:=by
   have:=Jr (bR (m:=ws) Bq fun y hy=>(wm y).mpr ((Jh.mp hy).elim (e1 y) fun z=>Jg.mp z▸hx)) wl
   rwa[Jf] at this
  refine⟨_,rfl,_,rfl,d,_,rfl,.inl ⟨_,.inr x,.inl vT,rfl,rfl⟩,_,rfl,?_⟩
  rw[eN]
  refine bK ⟨_,rfl,_,rfl,d,_,rfl,.inl ⟨_,.inr x,vT,rfl,small (by rw[Ja];omega),rfl⟩,?_⟩
  rw[jU,if_neg kO]
  obtain⟨H7,c7⟩:∃H7,oG H6 d (.dK ((us++[x]).map dP)) H7:=⟨_,⟨rfl⟩⟩
  rw[<-c7.eq]
  have Cw:=c7.at
  have O5:H7 wp=some (.lst (ws'.map V.str)):=by rw[c7.ne (Ne.symm dw)];exact Im
  have s7:aj H H7:=fun b o e=>by rw[c7.ne (aq e oZ)];exact s6 b o e
  dsimp only
  refine dc (te:=fY _ _ _ _ _ _) (fun v H'=>cq fun(p:Addr) (ys:List V)=>v = .ref p/\aj H7 H'/\H' p=some (.lst ys)/\ys.length=B.length/\∀v∈ys,v = .non∨cq fun(r:Str) (z:Str×Str)=>v = .str r/\z∈B/\D8 x z.2 r) (fun Qn qn =>?_) ?_
  ·refine⟨_,rfl,l,rfl,⟨_,s7.seq hl⟩,?_⟩
   refine bo (N:=B.length) (fun k ys H'=>aj H7 H'/\ys.length=k/\∀v∈ys,v = .non∨cq fun(r:Str) (z:Str×Str)=>v = .str r/\z∈B/\D8 x z.2 r) ⟨aj.refl _,rfl,fun _ h=>nomatch h⟩ ?_ ?_
   ·rintro k ys H8 Ny hk ⟨s8,yl,ym⟩ ny
    have Eg:=s7.trans s8
    refine⟨⟨_,_,Eg.seq hl,Ia hk⟩,small (by omega),?_⟩
    rintro y H9 ⟨rfl,hy⟩
    have e:=hy _ (Eg.seq hl)
    rw[Ia hk] at e;cases e
    have hc:=(gB.cd _ (Jo hk)).le
    have hm:=Jo hk
    generalize B[k]=z at hc hm
    refine gn ?_
    dsimp only[fh]
    rw[if_pos rfl]
    refine⟨_,rfl,_,rfl,x,z.2,rfl,by omega,by omega,fun v H10 s10 hv=>ny _ _ ⟨s8.trans s10,by rw[Jf,yl];rfl,fun u hu =>?_⟩⟩
    rcases Jh.mp hu with hu|hu
    ·exact ym u hu
    ·rw[Jg.mp hu]
     rcases hv with hv|⟨r,hv,hr⟩
     ·exact .inl hv
     ·exact .inr ⟨r,z,hv,hm,hr⟩
   ·rintro ys H8 ⟨s8,yl,ym⟩
    refine⟨⟨_,(s7.trans s8).seq hl,by omega⟩,fun p hp=>qn _ _ ⟨p,ys,rfl,s8.trans (bj hp _),ax,yl,ym⟩⟩
  intro v H8
  refine ae.go ?_
  rintro p8 ys rfl s8 yI yl ym
  refine gn ?_
  have Eg:=s7.trans s8
  have N0:=s8 _ _ O5
  have PM:=s8 _ _ Cw
  refine⟨_,rfl,.inl ⟨rfl,_,aK.of N0⟩,?_⟩
  refine⟨_,rfl,p8,rfl,⟨_,aK.of yI⟩,?_⟩
  refine bo (N:=ys.length) (fun k out H'=>H'=H8/\∃zs:List Str,out=zs.map V.str/\zs.length<=k/\∀r∈zs,fw B r) ⟨rfl,[],rfl,Je _,fun _ h=>nomatch h⟩ ?_ ?_
  ·intro k out H9 Ny hk hz_ ny
   refine ae.el hz_ _ ?_
   clear hz_
   rintro rfl zs rfl zl zm
   have L3:ys[k]? = some ys[k]:=Jd hk
   have hm:=ym _ (Jo hk)
   generalize ys[k]=v at L3 hm
   refine⟨⟨_,_,aK.of yI,L3⟩,small (by rw[Ja];omega),?_⟩
   rintro y H10 ⟨rfl,hy⟩
   have e:=hy _ (aK.of yI)
   rw[L3] at e;cases e
   refine gn ?_
   rcases hm with rfl|⟨r,z,rfl,hzB,hr⟩
   ·exact⟨_,rfl,.inl ⟨rfl,_,rfl,bI (bI (ny _ _ ⟨rfl,zs,rfl,by omega,zm⟩))⟩⟩
   ·refine⟨_,rfl,.inl ⟨rfl,_,rfl,bK ⟨_,rfl,.inl ⟨rfl,_,rfl,fe (fun c=>⟨_,rfl,ny _ _ ⟨rfl,zs++[r],by rw[Jl];rfl,by rw[Jf];exact Wk zl,fun r' vE =>?_⟩⟩) (fun c=>ny _ _ ⟨rfl,zs,rfl,by omega,zm⟩)⟩⟩⟩⟩
    rcases Jh.mp vE with h|h
    ·exact zm r' h
    ·rw[Jg.mp h]
     refine hr.P9 hzB hx fun z =>?_
     rw[z] at c;exact absurd c (by decide)
  ·intro out H9
   refine ae.go ?_
   rintro rfl zs rfl zl zm
   refine⟨⟨_,aK.of yI,by omega⟩,fun p hp =>?_⟩
   obtain⟨H10,n10⟩:∃H10,dX H9 p (.lst (zs.map V.str)) H10:=⟨_,hp,rfl⟩
   rw[<-n10.eq]
   have ID:=n10.same _ _ N0
   refine⟨wp,p,_,_,rfl,rfl,ID,n10.at,by rw[Ja,Ja];exact sizeOk (by omega),fun H11 c11=>⟨(ws'++zs).length+20*(200-(us++[x]).length),?_,_,_,us++[x],ws'++zs,rfl,fun b o e =>?_,?_,?_,Bq,fun r hr =>?_,fun r hr =>?_,fun r hr =>?_,?_,rfl⟩⟩
   ·rw[Jf,Jf,Jf];show _+_+20*(200-(us.length+1))<_+1+_;omega
   ·rw[c11.ne (aq e Kk)];exact n10.same _ _ (Eg b o e)
   ·rw[c11.ne dw];exact n10.same _ _ PM
   ·rw[c11.at,Jl]
   ·exact(Jh.mp hr).elim (e1 r) fun z=>Jg.mp z▸hx
   ·exact(Jh.mp hr).elim (fun h=>e2 r (Uc _ h)) (zm r)
   ·rcases e3 r hr with z|z
    ·exact .inl (Uc _ z)
    ·rcases Jh.mp z with z|z
     ·exact .inr (Uc _ z)
     ·exact .inl (Ji _ z)
   ·rw[Jf,Jf];show _+_<=200+20*(us.length+1);omega
 intro σ H4
 refine ae.go ?_
 rintro x4 x5 us rfl s4 Gq nd ul um
 have dT:d≠T0:=fun z=>by rw[z,hT] at oZ;cases oZ
 refine⟨_,rfl,ps,s4 _ _ hT,eC tab s4,fun fl rD H5 nfl hT5 tab5 lam5 k5=>⟨d,fl,us.map dP,us,rfl,rfl,k5 d _ dT Gq,?_,fun t ht Hj sj=>⟨yx lam5 sj,?_⟩,fun vs p H6 pm pw s6 hp vY=>q vs p rD H6 (fun b o hb e=>s6 _ _ (k5 b o hb (s4 b o e))) ?_ vY (s6 _ _ hT5) (eC tab5 s6) (pm.nodup_iff.mpr nd) (by rw[pm.length_eq];exact ul) (fun r=>pm.mem_iff.trans (um r)) pw⟩⟩
 ·rw[Y9];rfl
 ·have:=((um t).mp ht).Ei gB
  exact⟨_,rfl,_,_,rfl,⟨sizeOk (by omega),rfl⟩,_,rfl,by show 2<=sizeLine;decide,fun z H' n=>⟨z,rfl,n⟩⟩
 ·cases e:H p with
  | none=>rfl
  | some o=>
   by_cases hb:p=T0
   ·rw[hb,hT5] at hp;cases hp
   ·rw[k5 p o hb (s4 _ _ e)] at hp;cases hp
end
noncomputable abbrev Pr:=Str×Nat
noncomputable def tI (p:Pr):PyData := .tuple [.str p.1,.int (p.2:Nat)]
noncomputable def gF (p:Pr):Key×V:=(.inr p.1,.int (p.2:Nat))
structure Ec (B:List (Str×Str))(ps:List Pr):Prop where
 nd:(ps.map (·.1)).Nodup
 lg:∀r,fw B r->r∈ps.map (·.1)
 fa:∀p∈ps,∀q∈B,∀r,Bh q p.1 r->∃n,(r,n)∈ps/\n<p.2
def xQ (B:List (Str×Str))(d:PyData):Prop:=∃ps:List Pr,d = .list (ps.map tI)/\(∀p∈ps,iB p.1/\p.1 ≠ "")/\Ec B ps
theorem Ec.en {B:List (Str×Str)}{ps:List Pr}(h:Ec B ps):∀(n:Nat) (p:Pr),p∈ps->p.2<n->En (D5 B) (sg p.1)
 | 0,p,_,hn=>absurd hn (Nat.not_lt_zero _)
 | n+1,p,hp,hn =>.mk _ fun c hc r hl=>by
  obtain⟨q,hq,rfl⟩:=uk.mp hc
  obtain⟨m,hm,lt⟩:=h.fa p hp q hq (toS r) (nR.mpr (by rw[xC];exact hl))
  have:=h.en n (toS r,m) hm (by show m<n;omega)
  rw[xC] at this
  exact this
theorem Ec.all {B:List (Str×Str)}{ps:List Pr}(h:Ec B ps){r:Str}(hr:fw B r):En (D5 B) (sg r):=by
 obtain⟨p,hp,rfl⟩:=Ug.mp (h.lg r hr)
 exact h.en _ p hp (Nat.lt_succ_self _)
theorem zq {p p':Pr}(h:tI p=tI p'):p=p':=by
 unfold tI at h
 injection h with h
 injection h with h1 h
 injection h with h2 _
 injection h1 with h1
 injection h2 with h2
 exact Prod.ext h1 (by omega)
theorem xS {ds:List PyData}(h:∀e∈ds,sZ e):∃ps:List Pr,ds=ps.map tI/\∀p∈ps,iB p.1/\p.1 ≠ "":=by
 induction ds with
 | nil=>exact⟨[],rfl,fun p hp=>nomatch hp⟩
 | cons d ds ih=>
  obtain⟨ps,rfl,hp⟩:=ih fun e he=>h e (Jn _ he)
  obtain⟨x,n,rfl,hb,hx⟩:=h d Jq
  refine⟨(x,n)::ps,rfl,fun p hp' =>?_⟩
  rcases Uh.mp hp' with rfl|hp'
  ·exact⟨hb,hx⟩
  ·exact hp p hp'
theorem zh {ps rD:List Pr}(h:ps.map tI=rD.map tI):ps=rD:=by
 induction ps generalizing rD with
 | nil=>cases rD with|nil=>rfl|cons _ _=>cases h
 | cons p ps ih=>
  cases rD with
  | nil=>cases h
  | cons p' rD=>
   rw[Uj,Uj] at h
   injection h with h1 h2
   rw[zq h1,ih h2]
theorem pY {B:List (Str×Str)}{ps:List Pr}(hp:∀p∈ps,iB p.1/\p.1 ≠ ""):xQ B (.list (ps.map tI))↔Ec B ps:=by
 refine⟨fun⟨rD,e,_,h⟩=>?_,fun h=>⟨ps,rfl,hp,h⟩⟩
 injection e with e
 rw[zh e];exact h
theorem hU:∀(kvs acc:List (Key×V)),(kvs.map (·.1)).Nodup->(∀kv∈kvs,aW acc kv.1=none)->bA acc kvs=acc++kvs
 | [],acc,_,_=>(U6 _).symm
 | kv::kvs,acc,nd,h=>by
  rw[Uj] at nd
  obtain⟨n1,n2⟩:=U1.mp nd
  show bA (putK acc kv.1 kv.2) kvs=_
  rw[dH _ (h kv Jq),hU kvs _ n2 fun kw hw =>?_]
  ·rw[Ul];rfl
  ·rw[iZ _ _ _ _ (h kv Jq),if_neg (fun z=>n1 (by rw[<-z];exact U5 hw))]
   exact h kw (Jn _ hw)
theorem kh:∀(kvs acc:List (Key×V)),(bA acc kvs).length=acc.length+kvs.length->(kvs.map (·.1)).Nodup/\(∀kv∈kvs,aW acc kv.1=none)/\bA acc kvs=acc++kvs
 | [],acc,_=>⟨Wm,(fun _ h=>nomatch h),(U6 _).symm⟩
 | kv::kvs,acc,h=>by
  have h:(bA (putK acc kv.1 kv.2) kvs).length=acc.length+(kvs.length+1):=h
  have h1:=cD kvs (putK acc kv.1 kv.2)
  have hn:aW acc kv.1=none:=by
   cases e:aW acc kv.1 with
   | none=>rfl
   | some v=>
    have:(putK acc kv.1 kv.2).length=acc.length:=by
     unfold putK
     rw[if_pos (List.any_eq_true.mpr ⟨_,iU e,decide_eq_true rfl⟩),Ja]
    omega
  rw[dH _ hn] at h h1
  have l:(acc++[(kv.1,kv.2)]).length=acc.length+1:=by rw[Jf];rfl
  obtain⟨k1,k2,k3⟩:=kh kvs (acc++[(kv.1,kv.2)]) (by rw[h,l];omega)
  have val:∀k,aW (acc++[(kv.1,kv.2)]) k=if k=kv.1 then some kv.2 else aW acc k:=fun k=>by rw[<-dH kv.2 hn,pM]
  refine⟨?_,fun kw hw =>?_,?_⟩
  ·rw[Uj]
   refine U1.mpr ⟨fun hm =>?_,k1⟩
   obtain⟨kw,hw,e⟩:=Ug.mp hm
   have:=k2 kw hw
   rw[val,if_pos e] at this;cases this
  ·rcases Uh.mp hw with e|hw
   ·rw[e];exact hn
   ·have:=k2 kw hw
    rw[val] at this
    split at this
    ·cases this
    ·exact this
  ·show bA (putK acc kv.1 kv.2) kvs=_
   rw[dH _ hn,k3,Ul];rfl
theorem fm (ps:List Pr):(ps.map gF).map (·.1)=(ps.map (·.1)).map Sum.inr:=by rw[Y9,Y9];rfl
theorem jK {xs:List Str}:(xs.map (Sum.inr:Str->Key)).Nodup↔xs.Nodup:=
 ⟨fun h=>Uz.mpr ((Wg.mp (Uz.mp h)).imp fun C4 z=>C4 (by rw[z])),
   fun h=>Uz.mpr (Wg.mpr ((Uz.mp h).imp fun C4 z=>C4 (by injection z)))⟩
theorem gN (ps:List Pr):(bA [] (ps.map gF)).length=ps.length↔(ps.map (·.1)).Nodup:=by
 refine⟨fun h =>?_,fun h =>?_⟩
 ·have:=(kh (ps.map gF) [] (by rw[h,Ja,Yn];omega)).1
  rw[fm] at this
  exact jK.mp this
 ·rw[hU (ps.map gF) [] (by rw[fm];exact jK.mpr h) fun _ _=>rfl,List.nil_append,Ja]
theorem ql {ps:List Pr}(h:(ps.map (·.1)).Nodup):bA [] (ps.map gF)=ps.map gF:=by
 rw[hU (ps.map gF) [] (by rw[fm];exact jK.mpr h) fun _ _=>rfl,List.nil_append]
theorem rT (acc:List (Key×V))(kvs:List (Key×V))(kv:Key×V):bA acc (kvs++[kv])=putK (bA acc kvs) kv.1 kv.2:=by
 unfold bA
 rw[List.foldl_append];rfl
theorem jk {ps:List Pr}(nd:(ps.map (·.1)).Nodup){r:Str}{n:Nat}:(r,n)∈ps↔aW (ps.map gF) (.inr r)=some (.int (n:Nat)):=by
 refine⟨fun h=>qq (by rw[fm];exact jK.mpr nd) (Ug.mpr ⟨(r,n),h,rfl⟩),fun h =>?_⟩
 obtain⟨p,hp,e⟩:=Ug.mp (iU h)
 unfold gF at e
 injection e with e1 e2
 injection e1 with e1
 injection e2 with e2
 have:p=(r,n):=Prod.ext e1 (by show p.2=n;omega)
 rw[<-this];exact hp
theorem tN {ps:List Pr}{r:Str}:(aW (ps.map gF) (.inr r)).isSome=true↔r∈ps.map (·.1):=by
 refine⟨fun h =>?_,fun h =>?_⟩
 ·cases e:aW (ps.map gF) (.inr r) with
  | none=>rw[e] at h;cases h
  | some v=>
   have:=oQ e
   rw[fm] at this
   obtain⟨x,hx,e⟩:=Ug.mp this
   rw[<-Sum.inr.inj e];exact hx
 ·cases e:aW (ps.map gF) (.inr r) with
  | some v=>rfl
  | none=>
   refine absurd ?_ (kG e)
   rw[fm];exact U5 h
def tL (B:List (Str×Str))(ps:List Pr)(x:Str)(m:Nat):Prop:=∀q∈B,∀r,Bh q x r->∃n,(r,n)∈ps/\n<m
def zQ (K:Jb):Sp:=fun vs H Q _=>GY fun(l d:Addr) (x:Str) (m:Nat) (B:List (Str×Str)) (ps:List Pr)=>vs=[.ref l,.ref d,.str x]/\o7 K H B l/\eS B/\Rd H d (.dK (ps.map gF))/\(ps.map (·.1)).Nodup/\(x,m)∈ps/\x.length<=1000000/\∀b H',(b=true↔tL B ps x m)->aj H H'->Q (.bl b) H'
structure mK (K:Jb)(H:Hp)(d:PyData)(v:V):Prop where
 den:Den K H d v
 pz:Pz d=true
 wt:d.weight<=1000000
 pG:∀ds,d = .list ds->ds.length<=1000
def tD (K:Jb):Sp:=fun vs H Q _=>pW fun(l:Addr) (v:V) (B:List (Str×Str)) (d:PyData)=>vs=[.ref l,v]/\o7 K H B l/\eS B/\mK K H d v/\∀b H',(b=true↔xQ B d)->aj H H'->Q (.bl b) H'
theorem zb {H H':Hp}{a:Addr}{u:HO}(h:Rd H a u)(s:aj H H'):Rd H' a u:=h.elim (fun h =>.inl (s _ _ h)) fun⟨o,h⟩=>.inr ⟨o,s _ _ h⟩
theorem wG {ds:List PyData}{e:PyData}{n:Nat}(h:PyData.weight (.list ds)<=n)(he:e∈ds):e.weight<=n:=by
 simp only[PyData.weight] at h
 exact mS h he
theorem jW {d:PyData}:lO d "list" = true ↔ ∃ds,d = .list ds:=by
 cases d with
 | list x=>exact⟨fun _=>⟨x,rfl⟩,fun _=>rfl⟩
 | none=>exact⟨(fun h=>absurd h (by decide)),fun⟨x,e⟩=>nomatch e⟩
 | bool b=>exact⟨(fun h=>absurd (show false=true from h) (by decide)),fun⟨x,e⟩=>nomatch e⟩
 | int i=>exact⟨(fun h=>absurd (show false=true from h) (by decide)),fun⟨x,e⟩=>nomatch e⟩
 | tuple i=>exact⟨(fun h=>absurd (show false=true from h) (by decide)),fun⟨x,e⟩=>nomatch e⟩
 | str i=>exact⟨(fun h=>absurd (show false=true from h) (by decide)),fun⟨x,e⟩=>nomatch e⟩
 | dict i=>exact⟨(fun h=>absurd (show false=true from h) (by decide)),fun⟨x,e⟩=>nomatch e⟩
theorem tU {K:Jb}{σ:L2.St}{H:Hp}{Q:VK}{p:Addr}{ds:List PyData}{vs:List V}{n:Nat}(hn:n=1)(h1: σ[1]? = some (some (.ref p)))(hp:aK K H p vs)(hd:aB K H ds vs)(pz:Pz (.list ds)=true)(wt:PyData.weight (.list ds)<=1000000)(pG:ds.length<=1000)
  (q:∀(p3:Addr) (bs:List Bool) (H':Hp),aj H H'->H' p3=some (.lst (bs.map V.bl))->(bs.all id=true ↔ ∀e∈ds,sZ e)->Q (.ref p3) H') :
  fY (xA K (zZ 1)) n [] (fM 0) fh (sT (cK K sZ) [] E0 (qA (zZ 0) DN)) σ H Q:=by
 subst hn
 have hl:=hd.len
 have pz:∀e∈ds,Pz e=true:=by simp only[Pz] at pz;exact iH.mp pz
 refine⟨_,h1,p,rfl,⟨_,hp⟩,?_⟩
 refine bo (N:=ds.length) (fun i ys H'=>aj H H'/\∃bs:List Bool,ys=bs.map V.bl/\bs.length=i/\(bs.all id=true ↔ ∀e∈ds.take i,sZ e)) ⟨aj.refl _,[],rfl,rfl,⟨(fun _ e he=>nomatch he),fun _=>rfl⟩⟩ ?_ ?_
 ·intro i ys H1 Ny hi hz_ ny
  refine ae.el hz_ _ ?_
  clear hz_
  rintro s1 bs rfl bl bi
  obtain⟨x,e1,e2⟩:=hd.get (Jd hi)
  refine⟨⟨_,_,s1.seq hp,e1⟩,Ub (show _<=1000 by rw[Ja];omega) (by decide),?_⟩
  rintro y H2 ⟨rfl,hy⟩
  have e:=hy _ (s1.seq hp)
  rw[e1] at e;cases e
  refine gn ?_
  dsimp only[fh]
  rw[if_pos rfl]
  have hm:=Jo hi
  refine⟨_,rfl,_,ds[i],rfl,e2.same s1,pz _ hm,wG wt hm,fun b H3 ib s3=>ny _ _ ⟨s1.trans s3,bs++[b],by rw[Jl];rfl,by rw[Jf,bl];rfl,?_⟩⟩
  rw[List.all_append,Uv,bi,aQ hi]
  have ob:([b].all id=true)↔b=true:=by cases b<;>decide
  rw[ob,ib]
  refine⟨fun⟨h1,h2⟩ e he =>?_,fun h=>⟨fun e he=>h e (Uc _ he),h _ (Ji _ (Jg.mpr rfl))⟩⟩
  rcases Jh.mp he with he|he
  ·exact h1 e he
  ·rw[Jg.mp he];exact h2
 ·intro ys H1
  refine ae.go ?_
  rintro s1 bs rfl bl bi
  rw[J3] at bi
  exact⟨⟨_,s1.seq hp,by omega⟩,fun p3 hp3=>q p3 bs _ (s1.trans (bj hp3 _)) ax bi⟩
section
variable {P:Program}{w:World}{K:Jb}{mg:Str->Option Value}{base:Heap}{f:Addr}{fd:FuncData}
theorem qt:aO ["book", "ranks", "lag", "laters"] ["book", "ranks", "lag"] (aA (top nM)):=⟨rfl,rfl,rfl,by decide +kernel,rfl,by decide +kernel,by decide +kernel⟩
theorem Gf (F:dj K "falls" "falls" (top nM) f fd)(T:Nm mg)(cQ:Fn P w K mg base 2 "lags_behind" ["book", "lag"] (u0 K)):bW P w K mg base fI 3 f fd ["book", "ranks", "lag"] (zQ K):=by
 refine F.ok qt (fun vs H Q E h =>?_) (fun dZ A outer s H vs Q E hr h =>?_)
 ·obtain⟨l,d,x,m,B,ps,rfl,_⟩:=h
  rfl
 unfold zQ at h
 refine ae.el h _ ?_
 clear h
 rintro l d x m B ps rfl hB gB hd nd hx mq q
 have hu:=jB hr
 have small:∀{n:Nat},n<=10000->n<sizeLine:=fun h=>Ub h (by decide)
 refine⟨_,(ah (bV (i:=3) qt.nd rfl (Or.inl rfl) rfl (aM (Nc:=["name", "code", "later"]) (Fc:=[]) (js:=[])) (iA K (aP (cQ.mono (by decide)) hr rfl (aa (pv 0) (aa (pv 2) ag)))) (eY (aU (az (i:=0) (n:=3) (by decide)) (aU (az (i:=1) (n:=3) (by decide)) (aU (az (i:=2) (n:=3) (by decide)) dB aF bp) aF (bz aF bp)) aF (bz aF (bz aF bp)))) (fun _ _ _ _ _=>(tupK K 3 rfl (aG (av (i:=0) (d4 ["name", "code", "later"]) rfl (Or.inl rfl)) (aG (av (i:=1) (d4 ["name", "code", "later"]) rfl (Or.inl rfl)) (aG (av (i:=2) (d4 ["name", "code", "later"]) rfl (Or.inl rfl)) cy))))) (fun _ _ _ _ _=>aX) (fun _ _ _ _ _=>(pv 2)))
  (au (aJ (aw (qf K rfl) rfl T.n_all (by rfl) (aa (br rfl (aM (Nc:=["later"]) (Fc:=["ranks", "lag"]) (js:=[1,2])) (iA K (pv 3)) (az (i:=0) (n:=1) (by decide)) (fun _ _ _ _ _=>(av (i:=0) (d4 ["later", "ranks", "lag"]) rfl (Or.inl rfl))) (fun _ _ _ _ _=>aX) (fun _ _ _ _ _=>(iX (nG (j6 hu (pv 0) (pv 1))) (oS (fG ko (dh hu (pv 1) (pv 0) (fun _ _=>rfl)) (dh hu (pv 1) (pv 2) (fun _ _=>rfl)) (aL _)))))) ag))))),?_⟩
 refine dc (te:=fY _ _ _ _ _ _) (fun v H'=>cq fun(p:Addr) (ls:List Str)=>v = .ref p/\aj H H'/\H' p=some (.lst (ls.map V.str))/\ls.length<=16/\∀r,r∈ls ↔ ∃q∈B,Bh q x r) (fun Qn qn =>?_) ?_
 ·refine⟨_,rfl,_,rfl,l,x,B,rfl,hB,gB,mq,fun as p9 H9 s9 hp90 uw al ha hcv=>⟨p9,rfl,⟨_,aK.of uw⟩,?_⟩⟩
  have yc:∀{j:Nat} (hj:j<as.length),(as.map fun z=>V.ref z.1)[j]? = some (.ref as[j].1):=fun hj=>by rw[Jk,Jd hj];rfl
  refine bo (N:=as.length) (fun j ys H'=>H'=H9/\ys=((as.take j).map (·.2.2)).map V.str) ⟨rfl,rfl⟩ ?_ ?_
  ·rintro j ys H10 Ny hj ⟨rfl,rfl⟩ ny
   refine⟨⟨_,_,aK.of uw,yc hj⟩,small (by rw[Ja,Ja,J1];omega),?_⟩
   rintro v H11 ⟨rfl,hv⟩
   have e:=hv _ (aK.of uw)
   rw[yc hj] at e;cases e
   have hz:=(ha _ (Jo hj)).1
   have cY:=aQ hj
   generalize as[j]=z at hz cY
   refine⟨_,_,rfl,fP.of hz,rfl,_,_,rfl,_,_,rfl,_,_,rfl,rfl,?_⟩
   dsimp only[fh]
   rw[if_pos rfl]
   refine⟨_,rfl,ny _ _ ⟨rfl,?_⟩⟩
   rw[cY,Jl,Jl];rfl
  ·rintro ys H10 ⟨rfl,rfl⟩
   rw[J3]
   refine⟨⟨_,aK.of uw,by rw[Ja];exact Je _⟩,fun p hp=>qn _ _ ⟨p,_,rfl,s9.trans (bj hp _),ax,by rw[Ja];exact al,fun r=>⟨fun h =>?_,fun⟨q',oj,hb⟩=>?_⟩⟩⟩
   ·refine ae.el (Ug.mp h) _ ?_
    rintro z hz rfl
    refine ae.el (ha z hz) _ ?_
    rintro _ h1 h2
    exact⟨_,h1,h2⟩
   ·refine ae.el (hcv q' oj r hb) _ ?_
    rintro z hz _ e
    exact Ug.mpr ⟨z,hz,e⟩
 intro v H1
 refine ae.go ?_
 rintro p ls rfl s1 hW ll lm
 refine gn ?_
 have jM:∀{i:Nat} (hi:i<ls.length),(ls.map V.str)[i]? = some (.str ls[i]):=fun hi=>by rw[Jk,Jd hi];rfl
 have EX:=zb hd s1
 have Ef:dz H1 d (.str x) (some (.int (m:Nat))) := .inl ⟨_,.inr x,EX,rfl,((jk nd).mp hx).symm⟩
 refine⟨_,rfl,p,rfl,⟨_,aK.of hW⟩,?_⟩
 refine bo (N:=ls.length) (fun j ys H'=>H'=H1/\∃bs:List Bool,ys=bs.map V.bl/\bs.length=j/\(bs.all id=true ↔ ∀r∈ls.take j,∃n,(r,n)∈ps/\n<m)) ⟨rfl,[],rfl,rfl,⟨(fun _ e he=>nomatch he),fun _=>rfl⟩⟩ ?_ ?_
 ·intro j ys H2 Ny hj hz_ ny
  refine ae.el hz_ _ ?_
  clear hz_
  rintro rfl bs rfl bl bi
  refine⟨⟨_,_,aK.of hW,jM hj⟩,small (by rw[Ja];omega),?_⟩
  rintro y H3 ⟨rfl,hy⟩
  have e:=hy _ (aK.of hW)
  rw[jM hj] at e;cases e
  have cY:=aQ hj
  generalize ls[j]=r at cY
  have more:∀b:Bool,(b=true ↔ ∃n,(r,n)∈ps/\n<m)->((bs++[b]).all id=true ↔ ∀r∈ls.take (j+1),∃n,(r,n)∈ps/\n<m):=fun b ib=>by
   rw[List.all_append,Uv,bi,cY]
   have ob:([b].all id=true)↔b=true:=by cases b<;>decide
   rw[ob,ib]
   refine⟨fun⟨h1,h2⟩ e he =>?_,fun h=>⟨fun e he=>h e (Uc _ he),h _ (Ji _ (Jg.mpr rfl))⟩⟩
   rcases Jh.mp he with he|he
   ·exact h1 e he
   ·rw[Jg.mp he];exact h2
  have put:∀b:Bool,(b=true ↔ ∃n,(r,n)∈ps/\n<m)->Ny (bs.map V.bl++[.bl b]) H3:=fun b ib=>ny _ _ ⟨rfl,bs++[b],by rw[Jl];rfl,by rw[Jf,bl];rfl,more b ib⟩
  refine gn ?_
  dsimp only[fh]
  rw[if_pos rfl]
  cases hv:aW (ps.map gF) (.inr r) with
  | none=>
   have hg:dz H3 d (.str r) none := .inl ⟨_,.inr r,EX,rfl,hv.symm⟩
   refine⟨_,rfl,_,rfl,d,_,rfl,hg,_,rfl,bI (put _ ⟨(fun z=>nomatch z),fun⟨n,hn,_⟩=>?_⟩)⟩
   rw[(jk nd).mp hn] at hv;cases hv
  | some u=>
   obtain⟨⟨r',n⟩,hp',e⟩:=Ug.mp (iU hv)
   unfold gF at e
   injection e with e1 e2
   injection e1 with e1
   have e1:r'=r:=e1
   subst e1 e2
   have hg:dz H3 d (.str r') (some (.int (n:Nat))) := .inl ⟨_,.inr r',EX,rfl,hv.symm⟩
   refine⟨_,rfl,_,rfl,d,_,rfl,hg,_,rfl,bK ⟨_,rfl,_,rfl,d,_,rfl,hg,_,rfl,_,rfl,d,_,rfl,Ef,_,_,rfl,rfl,put _ ?_⟩⟩
   rw[decide_eq_true_iff]
   refine⟨fun h=>⟨n,hp',by omega⟩,fun⟨n',hn',lt⟩=>?_⟩
   rw[(jk nd).mp hn'] at hv
   have:=Option.some.inj hv
   injection this with this
   show(n:Int)<m
   omega
 ·intro ys H2
  refine ae.go ?_
  rintro rfl bs rfl bl bi
  refine⟨⟨_,aK.of hW,by rw[Ja];exact Je _⟩,fun p2 qB=>⟨p2,_,rfl,aK.of ax,q _ _ ?_ (s1.trans (bj qB _))⟩⟩
  rw[bi,J3]
  exact⟨fun h q' oj r hb=>h r ((lm r).mpr ⟨q',oj,hb⟩),fun h r hr=>by
   refine ae.el ((lm r).mp hr) _ ?_
   rintro q' oj hb
   exact h q' oj r hb⟩
end
theorem uc {K:Jb}{H:Hp}{ps:List Pr}{vs:List V}(h:aB K H (ps.map tI) vs):∃as:List Addr,vs=as.map V.ref/\as.length=ps.length/\∀(i:Nat) (hi:i<ps.length) (a:Addr),as[i]? = some a->fP K H a [.str ps[i].1,.int (ps[i].2:Nat)]:=by
 induction ps generalizing vs with
 | nil=>rw[List.map_nil] at h;unfold aB at h;exact⟨[],h,rfl,fun i hi=>absurd hi (Nat.not_lt_zero _)⟩
 | cons p ps ih=>
  rw[Uj] at h
  unfold aB at h
  obtain⟨v,r,rfl,h1,h2⟩:=h
  obtain⟨as,rfl,al,ha⟩:=ih h2
  unfold tI Den at h1
  obtain⟨a,us,rfl,h3,h4⟩:=h1
  refine ae.el (xg h4 rfl) _ ?_
  rintro d0 d1 v0 v1 e rfl k0 k1
  injection e with e0 e
  injection e with e1 _
  subst e0 e1
  unfold Den at k0 k1
  subst k0 k1
  refine⟨a::as,rfl,by rw[J0,J0,al],fun i hi b hb =>?_⟩
  cases i with
  | zero=>cases hb;exact h3
  | succ i=>exact ha i (Nat.lt_of_succ_lt_succ hi) b hb
section
variable {P:Program}{w:World}{K:Jb}{mg:Str->Option Value}{base:Heap}{f:Addr}{fd:FuncData}
theorem gE:aO ["book", "thing", "ranks"] ["book", "thing"] (aA (top eX)):=⟨rfl,rfl,rfl,by decide +kernel,rfl,by decide +kernel,by decide +kernel⟩
theorem CQ (F:dj K "shows_ranks" "shows_ranks" (top eX) f fd)(T:Nm mg)(pO:Fn P w K mg base 3 "is_ranked" ["thing"] (cK K sZ))(gq:Fn P w K mg base 1 "code_ends" ["book"] (yy K))(A1:Fn P w K mg base 3 "falls" ["book", "ranks", "lag"] (zQ K)):bW P w K mg base fI 4 f fd ["book", "thing"] (tD K):=by
 refine F.ok gE (fun vs H Q E h =>?_) (fun dZ A outer s H vs Q E hr h =>?_)
 ·obtain⟨l,v,B,d,rfl,_⟩:=h
  rfl
 unfold tD at h
 refine ae.el h _ ?_
 clear h
 rintro l v B d rfl hB gB ⟨hv,pz,wt,pG⟩ q
 have hu:=jB hr
 have eK:=hr.units
 have small:∀{n:Nat},n<=10000->n<sizeLine:=fun h=>Ub h (by decide)
 refine⟨_,(ah (bS (PW.pt (fJ (dU (cH (aw (kP K) rfl T.n_isinstance (by rfl) (aa (pv 1) (aa (cZ rfl T.n_list (by rfl) (v := .ty "list") rfl) ag))))) (gh (dU (cH (aw (qf K rfl) rfl T.n_all (by rfl) (aa (br rfl (aM (Nc:=["part"]) (Fc:=[]) (js:=[])) (iA K (pv 1)) (az (i:=0) (n:=1) (by decide)) (fun _ _ _ _ _=>(av (i:=0) (d4 ["part"]) rfl (Or.inl rfl))) (fun _ _ _ _ _=>aX) (fun _ _ _ _ _=>(aP (pO.mono (by decide)) hr rfl (aa (pv 0) ag)))) ag))))))) (au (aJ dk)) aV)
  (ah (aN (i:=2) gE.nd rfl (Or.inr rfl) (kQ rfl (aM (Nc:=["lag", "rank"]) (Fc:=[]) (js:=[])) (iA K (pv 1)) (eY (aU (az (i:=0) (n:=2) (by decide)) (aU (az (i:=1) (n:=2) (by decide)) dB aF bp) aF (bz aF bp))) (fun _ _ _ _ _=>(tupK K 2 rfl (aG (av (i:=0) (d4 ["lag", "rank"]) rfl (Or.inl rfl)) (aG (av (i:=1) (d4 ["lag", "rank"]) rfl (Or.inl rfl)) cy)))) (fun _ _ _ _ _=>aX) (fun _ _ _ _ _=>(pv 0)) (fun _ _ _ _ _=>(pv 1))))
  (ah (bS (PW.pt (fJ (aI (tE K eK) (aw jq rfl T.n_len (by rfl) (aa (pv 2) ag)) (aw (dy K) rfl T.n_len (by rfl) (aa (pv 1) ag)) (aL _)) (gh (dU (cH (aw (qf K rfl) rfl T.n_all (by rfl) (aa (br rfl (aM (Nc:=["lag"]) (Fc:=["ranks"]) (js:=[2])) (iA K (aP (gq.mono (by decide)) hr rfl (aa (pv 0) ag))) (az (i:=0) (n:=1) (by decide)) (fun _ _ _ _ _=>(av (i:=0) (d4 ["lag", "ranks"]) rfl (Or.inl rfl))) (fun _ _ _ _ _=>aX) (fun _ _ _ _ _=>(nG (j6 hu (pv 0) (pv 1))))) ag))))))) (au (aJ dk)) aV)
  (au (aJ (aw (qf K rfl) rfl T.n_all (by rfl) (aa (AR (br rfl (aM (Nc:=["lag"]) (Fc:=["book", "ranks"]) (js:=[0,2])) (kM (pv 2)) (az (i:=0) (n:=1) (by decide)) (fun _ _ _ _ _=>(av (i:=0) (d4 ["lag", "book", "ranks"]) rfl (Or.inl rfl))) (fun _ _ _ _ _=>aX) (fun _ _ _ _ _=>(aP (A1.mono (by decide)) hr rfl (aa (pv 1) (aa (pv 2) (aa (pv 0) ag))))))) ag))))))),?_⟩
 have no:∀{H'},¬xQ B d->aj H H'->Q (.bl false) H':=fun h s=>q false _ ⟨(fun z=>nomatch z),fun z=>absurd z h⟩ s
 refine bO fun D1 n1 y1 =>?_
 refine⟨_,rfl,.inl ⟨v, "list",d,_,rfl,hv,(kb K d).2.2.2.1,_,rfl,?_⟩⟩
 by_cases hl:lO d "list" = true
 rotate_left
 ·rw[Ur.mpr hl]
  exact bK (bK (y1 _ _ (no (fun⟨ps,e,_⟩=>hl (jW.mpr ⟨_,e⟩)) (aj.refl _))))
 rw[hl]
 obtain⟨ds,rfl⟩:=jW.mp hl
 have pG:=pG ds rfl
 unfold Den at hv
 obtain⟨p,vs,rfl,hp,hds⟩:=hv
 refine bI ?_
 dsimp only[B3,tB,HV,qA]
 refine tU ?_ ?_ hp hds pz wt pG fun p3 bs H3 s3 hp3 bi =>?_
 ·rfl
 ·rfl
 refine⟨p3,_,rfl,aK.of hp3,_,rfl,?_⟩
 by_cases ha:bs.all id=true
 rotate_left
 ·rw[Ur.mpr ha]
  refine bK (y1 _ _ (no (fun⟨ps,e,hb,_⟩=>ha (bi.mpr fun e' he =>?_)) s3))
  injection e with e
  rw[e] at he
  obtain⟨y,hy,rfl⟩:=Ug.mp he
  exact⟨y.1,y.2,rfl,(hb y hy).1,(hb y hy).2⟩
 rw[ha]
 refine bI (n1 _ _ ?_)
 clear n1 y1
 obtain⟨ps,rfl,hb⟩:=xS (bi.mp ha)
 rw[Ja] at pG
 rw[pY hb] at q no
 obtain⟨as,rfl,al,Bu⟩:=uc hds
 have LY:∀x∈ps,x.1.length<=1000000:=fun x hx=>by
  have h1:=wG wt (U5 (f:=tI) hx)
  unfold tI at h1
  simp only[PyData.weight,PyData.weightAll] at h1
  have e:x.1.cps.size=x.1.length:=rfl
  omega
 clear bi ha hds wt pz
 have yc:∀{i:Nat} (hi:i<ps.length),(as.map V.ref)[i]? = some (.ref (as[i]'(by omega))):=fun hi=>by rw[Jk,Jd (by omega)];rfl
 have qD:=s3.seq hp
 refine dc (te:=j8 _ _ _ _ _ _ _) (fun v H'=>∃d,v = .ref d/\dX H3 d (.dK (bA [] (ps.map gF))) H') (fun Qn qn =>?_) ?_
 ·refine⟨_,rfl,p,rfl,⟨_,qD⟩,fun D hD =>?_⟩
  refine⟨fun i m H'=>m=ps.length-i/\i<=ps.length/\H'=upd H3 D (.dK (bA [] ((ps.take i).map gF))),⟨_,rfl,Um _,rfl⟩,?_⟩
  intro i m H4
  refine ae.go ?_
  rintro rfl hi rfl
  have sm:aj H3 (upd H3 D (.dK (bA [] ((ps.take i).map gF)))):=bj hD _
  by_cases cF:i<ps.length
  ·refine .inr ⟨⟨_,_,sm.seq qD,yc cF⟩,?_⟩
   rintro y H5 ⟨rfl,hy⟩
   have e:=hy _ (sm.seq qD)
   rw[yc cF] at e;cases e
   have ht:=Bu i cF _ (Jd (by omega))
   refine⟨_,_,rfl,sm.jd (s3.jd ht),rfl,_,_,rfl,_,_,rfl,rfl,?_⟩
   dsimp only[fh]
   rw[if_pos rfl]
   refine⟨_,rfl,_,rfl,bA [] ((ps.take i).map gF),.inr ps[i].1,ax,rfl,small ?_,ps.length-(i+1),by omega,rfl,cF,?_⟩
   ·have:=cD ((ps.take i).map gF) []
    rw[Ja,J1,Yn] at this
    omega
   ·rw[AK,aQ cF,Jl,List.map_singleton,rT];rfl
  ·have e:i=ps.length:=by omega
   subst e
   refine .inl ⟨⟨_,sm.seq qD,by rw[Ja];omega⟩,?_⟩
   rw[J3];exact qn _ _ ⟨D,rfl,hD,rfl⟩
 intro v H4
 refine ae.go ?_
 rintro d rfl n4
 refine gn ?_
 have s4:=s3.trans n4.same
 have E7:=hB.same s4
 refine bO fun D2 n2 y2 =>?_
 refine⟨_,rfl,d,_,rfl,n4.at,_,rfl,_,_,rfl,.inl ⟨_,n4.same.seq qD,rfl⟩,.inl ⟨rfl,_,rfl,?_⟩⟩
 rw[Ja,al]
 by_cases nd:(ps.map (·.1)).Nodup
 rotate_left
 ·rw[decide_eq_false (fun z=>nd ((gN ps).mp (by injection z with z;omega)))]
  exact bK (y2 _ _ (no (fun z=>nd z.nd) s4))
 rw[decide_eq_true (by rw[(gN ps).mpr nd])]
 rw[ql nd] at n4
 refine bI ⟨_,rfl,l,B,rfl,E7,gB,fun ts p5 H5 s5 hp50 jV nd5 tl5 mem5=>⟨p5,rfl,⟨_,aK.of jV⟩,?_⟩⟩
 have jM:∀{i:Nat} (hi:i<ts.length),(ts.map V.str)[i]? = some (.str ts[i]):=fun hi=>by rw[Jk,Jd hi];rfl
 have vg:=s5 _ _ n4.at
 refine bo (N:=ts.length) (fun j ys H'=>H'=H5/\ys=((ts.take j).map fun r=>(aW (ps.map gF) (.inr r)).isSome).map V.bl) ⟨rfl,rfl⟩ ?_ ?_
 ·rintro j ys H6 Ny hj ⟨rfl,rfl⟩ ny
  refine⟨⟨_,_,aK.of jV,jM hj⟩,small (by rw[Ja,Ja,J1];omega),?_⟩
  rintro y H7 ⟨rfl,hy⟩
  have e:=hy _ (aK.of jV)
  rw[jM hj] at e;cases e
  refine gn ⟨_,rfl,_,rfl,d,_,rfl,dz.k (k:=Sum.inr ts[j]) vg,ny _ _ ⟨rfl,?_⟩⟩
  rw[aQ hj,Jl,Jl];rfl
 rintro ys H6 ⟨rfl,rfl⟩
 rw[J3]
 refine⟨⟨_,aK.of jV,by rw[Ja];exact Je _⟩,fun p7 hp7=>⟨p7,_,rfl,aK.of ax,?_⟩⟩
 obtain⟨H7,n7⟩:∃H7,dX H6 p7 (.lst ((ts.map fun r=>(aW (ps.map gF) (.inr r)).isSome).map V.bl)) H7:=⟨_,hp7,rfl⟩
 rw[<-n7.eq]
 have Nk:=s5.trans n7.same
 have s7:=s4.trans Nk
 refine⟨_,rfl,?_⟩
 have Na:(ts.map fun r=>(aW (ps.map gF) (.inr r)).isSome).all id=true ↔ ∀r,fw B r->r∈ps.map (·.1):=by
  rw[List.all_map,Yh]
  exact⟨fun h r hr=>tN.mp (h r ((mem5 r).mpr hr)),fun h r hr=>tN.mpr (h r ((mem5 r).mp hr))⟩
 by_cases hlg:(ts.map fun r=>(aW (ps.map gF) (.inr r)).isSome).all id=true
 rotate_left
 ·rw[Ur.mpr hlg]
  exact bK (y2 _ _ (no (fun z=>hlg (Na.mpr z.lg)) s7))
 rw[hlg]
 refine bI (n2 _ _ ?_)
 clear n2 y2
 have lg:=Na.mp hlg
 have Cw:=Nk _ _ n4.at
 have oZ:H d=none:=by
  cases e:H d with
  | none=>rfl
  | some o=>have:=n4.nn;rw[s3 _ _ e] at this;cases this
 refine⟨d,⟨_,Cw⟩,?_⟩
 refine⟨_,rfl,d,_,rfl,Cw,fun ob =>?_⟩
 obtain⟨H8,c8⟩:∃H8,oG H7 d (.frz ob (.dK (ps.map gF))) H8:=⟨_,⟨rfl⟩⟩
 rw[<-c8.eq]
 have s8:aj H H8:=fun b o e=>by rw[c8.ne (aq e oZ)];exact s7 b o e
 refine bo (N:=ps.length) (fun j ys H'=>aj H8 H'/\∃bs:List Bool,ys=bs.map V.bl/\bs.length=j/\(bs.all id=true ↔ ∀x∈ps.take j,tL B ps x.1 x.2)) ⟨aj.refl _,[],rfl,rfl,⟨(fun _ e he=>nomatch he),fun _=>rfl⟩⟩ ?_ ?_
 ·intro j ys H9 Ny hj hz_ ny
  refine ae.el hz_ _ ?_
  clear hz_
  rintro s9 bs rfl bl bi
  refine⟨⟨s9 _ _ c8.at,by rw[Ja];exact hj⟩,small (by rw[Ja];omega),?_⟩
  rintro y H10 ⟨rfl,kq,hkq,rfl⟩
  rw[Jk,Jd hj] at hkq
  cases hkq
  have hm:=Jo hj
  have cY:=aQ hj
  generalize ps[j]=x at hm cY
  refine gn ?_
  dsimp only[fh]
  rw[if_pos rfl]
  refine⟨_,rfl,_,rfl,_,rfl,l,d,x.1,x.2,B,ps,rfl,hB.same (s8.trans s9),gB,.inr ⟨ob,s9 _ _ c8.at⟩,nd,hm,LY x hm,fun b H11 ib s11=>ny _ _ ⟨s9.trans s11,bs++[b],by rw[Jl];rfl,by rw[Jf,bl];rfl,?_⟩⟩
  rw[List.all_append,Uv,bi,cY]
  have ob:([b].all id=true)↔b=true:=by cases b<;>decide
  rw[ob,ib]
  refine⟨fun⟨h1,h2⟩ e he =>?_,fun h=>⟨fun e he=>h e (Uc _ he),h _ (Ji _ (Jg.mpr rfl))⟩⟩
  rcases Jh.mp he with he|he
  ·exact h1 e he
  ·rw[Jg.mp he];exact h2
 intro ys H9
 refine ae.go ?_
 rintro s9 bs rfl bl bi
 rw[J3] at bi
 refine⟨⟨s9 _ _ c8.at,by rw[Ja];exact Je _⟩,fun pA hpA =>?_⟩
 have DZ:upd H9 pA (.lst (bs.map V.bl)) d=some (.frz ob (.dK (ps.map gF))):=bj hpA _ _ _ (s9 _ _ c8.at)
 refine⟨ob,_,DZ,?_⟩
 have pd:pA≠d:=fun z=>by rw[z,s9 _ _ c8.at] at hpA;cases hpA
 refine⟨pA,_,rfl,aK.of (by rw[ak pd];exact ax),?_⟩
 refine q _ _ (bi.trans ⟨fun h=>⟨nd,lg,h⟩,fun h=>h.fa⟩) fun b o e =>?_
 rw[ak (aq e oZ)]
 exact bj hpA _ _ _ (s9 _ _ (s8 b o e))
end
def AV (K:Jb):Sp:=fun vs H Q _=>pW fun(l:Addr) (v:V) (B:List (Str×Str)) (d:PyData)=>vs=[.ref l,v]/\aK K H l ((B.map (·.2)).map V.str)/\eS B/\mK K H d v/\∀b H',(b=true↔xQ B d)->aj H H'->Q (.bl b) H'
theorem qi {q:Str×Str}{x r:Str}:Bh q x r↔yo x q.2 r/\r ≠ "":=by
 rw[nR]
 exact⟨fun h=>⟨h.2,fun z=>h.1 (nZ.mpr z)⟩,fun h=>⟨fun z=>h.2 (nZ.mp z),h.1⟩⟩
theorem yo.one {a b r r':Str}(h:yo a b r)(h':yo a b r'):r=r':=by
 have h:=h.lf
 have h':=h'.lf
 rcases h with ⟨h1,h2⟩|⟨h1,h2⟩<;>rcases h' with ⟨g1,g2⟩|⟨g1,g2⟩
 ·exact dq (h2.trans g2.symm)
 ·omega
 ·omega
 ·exact dq (h2.trans g2.symm)
def ON (x c:Str)(v:V):Prop:=(v = .non/\∀r,¬yo x c r)∨∃r,v = .str r/\yo x c r
section
variable {P:Program}{w:World}{K:Jb}{mg:Str->Option Value}{base:Heap}{f:Addr}{fd:FuncData}
theorem eu:aO ["_law_codes", "_law_thing", "_law_ranks", "_law_code", "_law_lag", "_law_left_here"] ["_law_codes", "_law_thing"] (aA (top jw)):=⟨rfl,rfl,rfl,by decide +kernel,rfl,by decide +kernel,by decide +kernel⟩
theorem GN (F:dj K "_law_due" "_law_due" (top jw) f fd)(T:Nm mg)(rX:mg "dict" = none)(lU:Fn P w K mg base 1 "_law_is_pair" ["_law_thing"] (cK K sZ))(iu:Fn P w K mg base 1 "_law_left" ["_law_one", "_law_other"] pQ):bW P w K mg base fI 2 f fd ["_law_codes", "_law_thing"] (AV K):=by
 refine F.ok eu (fun vs H Q E h =>?_) (fun dZ A outer s H vs Q E hr h =>?_)
 ·obtain⟨l,v,B,d,rfl,_⟩:=h
  rfl
 unfold AV at h
 refine ae.el h _ ?_
 clear h
 rintro l v B d rfl Fl gB ⟨hv,pz,wt,pG⟩ q
 have hu:=jB hr
 have Po:=hu
 have eK:=hr.units
 have hle:=gB.le
 have small:∀{n:Nat},n<=10000->n<sizeLine:=fun h=>Ub h (by decide)
 refine⟨_,(ah (bS (PW.pt (fJ (dU (cH (aw (kP K) rfl T.n_isinstance (by rfl) (aa (pv 1) (aa (cZ rfl T.n_list (by rfl) (v := .ty "list") rfl) ag))))) (gh (dU (cH (aw (qf K rfl) rfl T.n_all (by rfl) (aa (br rfl (aM (Nc:=["_law_pair"]) (Fc:=[]) (js:=[])) (iA K (pv 1)) (az (i:=0) (n:=1) (by decide)) (fun _ _ _ _ _=>(av (i:=0) (d4 ["_law_pair"]) rfl (Or.inl rfl))) (fun _ _ _ _ _=>aX) (fun _ _ _ _ _=>(aP (lU.mono (by decide)) hr rfl (aa (pv 0) ag)))) ag))))))) (au (aJ dk)) aV)
  (ah (aN (i:=2) eu.nd rfl (Or.inr rfl) (cC (EL K rfl) rfl rX (by rfl) (aa (pv 1) ag)))
  (ah (bS (aI (tE K eK) (aw jq rfl T.n_len (by rfl) (aa (pv 2) ag)) (aw (dy K) rfl T.n_len (by rfl) (aa (pv 1) ag)) (aL _)) (au (aJ dk)) aV)
  (ah (fH PassesOwn.never rfl (iA K (pv 0)) (av (i:=3) eu.nd rfl (Or.inr rfl)) (au (bS (dU (cH (aw (qf K rfl) rfl T.n_all (by rfl) (aa (br rfl (aM (Nc:=["_law_place"]) (Fc:=["_law_ranks", "_law_code"]) (js:=[2,3])) (jt rfl T.n_range (aa ao (aa (aw (dy K) rfl T.n_len (by rfl) (aa (pv 3) ag)) ag))) (az (i:=0) (n:=1) (by decide)) (fun _ _ _ _ _=>(av (i:=0) (d4 ["_law_place", "_law_ranks", "_law_code"]) rfl (Or.inl rfl))) (fun _ _ _ _ _=>aX) (fun _ _ _ _ _=>(nG (j6 hu (bg (oU K) (pv 2) (bw (pv 0)) bB) (pv 1))))) ag)))) (au (aJ dk)) aV)))
  (ah (fH PassesOwn.never rfl (kM (pv 2)) (av (i:=4) eu.nd rfl (Or.inr rfl)) (au (fH PassesOwn.never rfl (iA K (br rfl (aM (Nc:=["_law_code"]) (Fc:=["_law_lag"]) (js:=[4])) (iA K (pv 0)) (az (i:=0) (n:=1) (by decide)) (fun _ _ _ _ _=>(av (i:=0) (d4 ["_law_code", "_law_lag"]) rfl (Or.inl rfl))) (fun _ _ _ _ _=>aX) (fun _ _ _ _ _=>(aP (iu.mono (by decide)) hr rfl (aa (pv 1) (aa (pv 0) ag)))))) (av (i:=5) eu.nd rfl (Or.inl rfl)) (au (bS (PW.pt (iw (aI ou (pv 5) e7 (aL _)) (iw (aI (tE K eK) (pv 5) bu (aL _)) (gI (aI tW (wj Po (pv 2) (pv 5) (dh hu (pv 2) (pv 4) (fun _ _=>rfl)) ⟨rfl,rfl,rfl,rfl⟩) (dh hu (pv 2) (pv 4) (fun _ _=>rfl)) (aL _)))))) (au (aJ dk)) aV)))))
  (au (aJ dk))))))),?_⟩
 have no:∀{H'},¬xQ B d->aj H H'->Q (.bl false) H':=fun h s=>q false _ ⟨(fun z=>nomatch z),fun z=>absurd z h⟩ s
 refine bO fun D1 n1 y1 =>?_
 refine⟨_,rfl,.inl ⟨v, "list",d,_,rfl,hv,(kb K d).2.2.2.1,_,rfl,?_⟩⟩
 by_cases hl:lO d "list" = true
 rotate_left
 ·rw[Ur.mpr hl]
  exact bK (bK (y1 _ _ (no (fun⟨ps,e,_⟩=>hl (jW.mpr ⟨_,e⟩)) (aj.refl _))))
 rw[hl]
 obtain⟨ds,rfl⟩:=jW.mp hl
 have pG:=pG ds rfl
 unfold Den at hv
 obtain⟨p,vs,rfl,hp,hds⟩:=hv
 refine bI ?_
 dsimp only[B3,tB,HV,qA]
 refine tU ?_ ?_ hp hds pz wt pG fun p3 bs H3 s3 hp3 bi =>?_
 ·rfl
 ·rfl
 refine⟨p3,_,rfl,aK.of hp3,_,rfl,?_⟩
 by_cases ha:bs.all id=true
 rotate_left
 ·rw[Ur.mpr ha]
  refine bK (y1 _ _ (no (fun⟨ps,e,hb,_⟩=>ha (bi.mpr fun e' he =>?_)) s3))
  injection e with e
  rw[e] at he
  obtain⟨y,hy,rfl⟩:=Ug.mp he
  exact⟨y.1,y.2,rfl,(hb y hy).1,(hb y hy).2⟩
 rw[ha]
 refine bI (n1 _ _ ?_)
 clear n1 y1
 obtain⟨ps,rfl,hb⟩:=xS (bi.mp ha)
 rw[Ja] at pG
 rw[pY hb] at q no
 obtain⟨as,rfl,al,Bu⟩:=uc hds
 have LY:∀x∈ps,x.1.length<=1000000:=fun x hx=>by
  have h1:=wG wt (U5 (f:=tI) hx)
  unfold tI at h1
  simp only[PyData.weight,PyData.weightAll] at h1
  have e:x.1.cps.size=x.1.length:=rfl
  omega
 clear bi ha hds wt pz
 have qD:=s3.seq hp
 refine bO (t:=gC _ _) fun D1 n1 y1 =>?_
 refine⟨_,rfl,p,as,ps.map gF,rfl,qD,by rw[Ja];exact al,by rw[Ja];omega,fun j b kv e1 e2 =>?_,fun d H4 n4=>gn (n1 _ _ ?_)⟩
 ·have hj:j<ps.length:=by
   have:=(Jx.mp e2).1
   rwa[Ja] at this
  rw[Jk,Jd hj] at e2
  cases e2
  exact s3.jd (Bu j hj b e1)
 clear n1 y1
 have s4:=s3.trans n4.same
 refine bO fun D2 n2 y2 =>?_
 refine⟨_,rfl,d,_,rfl,n4.at,_,rfl,_,_,rfl,.inl ⟨_,n4.same.seq qD,rfl⟩,.inl ⟨rfl,_,rfl,?_⟩⟩
 rw[Ja,al]
 by_cases nd:(ps.map (·.1)).Nodup
 rotate_left
 ·rw[decide_eq_false (fun z=>nd ((gN ps).mp (by injection z with z;omega)))]
  exact bK (y2 _ _ (no (fun z=>nd z.nd) s4))
 rw[decide_eq_true (by rw[(gN ps).mpr nd])]
 rw[ql nd] at n4
 refine bI (n2 _ _ ?_)
 clear n2 y2
 have oZ:H d=none:=by
  cases e:H d with
  | none=>rfl
  | some o=>have:=n4.nn;rw[s3 _ _ e] at this;cases this
 have MV:((B.map (·.2)).map V.str).length=B.length:=by rw[Ja,Ja]
 have yJ:∀{i:Nat} (hi:i<B.length),((B.map (·.2)).map V.str)[i]? = some (.str B[i].2):=fun hi=>by rw[Jk,Jk,Jd hi];rfl
 have AJ:=s4.seq Fl
 rw[show(List.set _ _ _:L2.St)=[some (.ref l),some (.ref p),some (.ref d),none,none,none] from rfl]
 refine cW (t:=qQ _ _ _) (fun σ H'=>∃x3:Option V,σ=[some (.ref l),some (.ref p),some (.ref d),x3,none,none]/\aj H4 H'/\∀r,fw B r->r∈ps.map (·.1)) (fun Nx nx =>?_) ?_
 ·refine⟨_,rfl,l,rfl,⟨_,AJ⟩,?_⟩
  refine hX (N:=B.length) (fun i σ H'=>∃x3:Option V,σ=[some (.ref l),some (.ref p),some (.ref d),x3,none,none]/\aj H4 H'/\∀r,fw (B.take i) r->r∈ps.map (·.1)) ⟨none,rfl,aj.refl _,fun r ⟨q,hq,_⟩=>nomatch hq⟩ ?_ ?_
  ·intro i σ H5 hi
   refine ae.go ?_
   rintro x3 rfl s5 lg5
   refine⟨⟨_,_,s5.seq AJ,yJ hi⟩,?_⟩
   rintro y H6 ⟨rfl,hy⟩
   have e:=hy _ (s5.seq AJ)
   rw[yJ hi] at e;cases e
   have hc:=(gB.cd _ (Jo hi)).le
   have hm:=Jo hi
   have cY:=aQ hi
   generalize B[i]=z at hc hm cY
   have zl:z.2.length=(sg z.2).length:=str_len _
   have vT:=s5 _ _ n4.at
   refine gn ?_
   refine⟨_,rfl,_,_,rfl,⟨sizeOk (by omega),rfl⟩,1,(z.2.length:Nat),rfl,⟨by omega,by omega,by omega,by omega⟩,?_⟩
   refine bo (N:=z.2.length-1) (fun k ys H'=>H'=H6/\ys=((Uu k).map fun j=>(aW (ps.map gF) (.inr (Txt.slice z.2 (some ((1+j:Nat):Int)) none))).isSome).map V.bl) ⟨rfl,rfl⟩ ?_ ?_
   ·rintro k ys H7 Ny hk ⟨rfl,rfl⟩ ny
    refine⟨by show k<_;omega,small (by rw[Ja,Ja,Yf];omega),?_⟩
    rintro y H8 ⟨rfl,rfl⟩
    refine gn ?_
    dsimp only[fh]
    rw[if_pos rfl]
    refine⟨_,rfl,_,rfl,_,rfl,?_⟩
    dsimp only[cU]
    refine .inr ⟨z.2,rfl,sizeOk (by omega),⟨_,rfl,d,_,rfl,dz.k (k:=Sum.inr (Txt.slice z.2 (some ((1:Int)+(k:Int))) none)) vT,ny _ _ ⟨rfl,?_⟩⟩⟩
    rw[List.range_succ,Jl,Jl,show((1:Int)+(k:Int))=((1+k:Nat):Int) by omega];rfl
   ·rintro ys H7 ⟨rfl,rfl⟩
    refine⟨by show _<=_;omega,fun p8 yI=>⟨p8,_,rfl,aK.of ax,_,rfl,?_⟩⟩
    have s8:=s5.trans (bj yI (.lst (((Uu (z.2.length-1)).map fun j=>(aW (ps.map gF) (.inr (Txt.slice z.2 (some ((1+j:Nat):Int)) none))).isSome).map V.bl)))
    generalize upd H7 p8 (.lst (((Uu (z.2.length-1)).map fun j=>(aW (ps.map gF) (.inr (Txt.slice z.2 (some ((1+j:Nat):Int)) none))).isSome).map V.bl))=H8 at s8 ⊢
    by_cases vS:((Uu (z.2.length-1)).map fun j=>(aW (ps.map gF) (.inr (Txt.slice z.2 (some ((1+j:Nat):Int)) none))).isSome).all id=true
    ·rw[vS]
     refine bI ⟨_,rfl,s8,fun r hr =>?_⟩
     rw[cY] at hr
     obtain⟨q',oj,h⟩:=hr
     rcases Jh.mp oj with oj|oj
     ·exact lg5 r ⟨q',oj,h⟩
     ·rw[Jg.mp oj] at h
      obtain⟨a,a1,a2,e⟩:=h
      rw[List.all_map,Yh] at vS
      have:=vS (a-1) (Yr.mpr (by omega))
      have er:r=Txt.slice z.2 (some ((1+(a-1):Nat):Int)) none:=dq (by rw[dE,e,show 1+(a-1)=a by omega])
      rw[er]
      exact tN.mp this
    ·rw[Ur.mpr vS]
     refine bK (no (fun g=>vS ?_) (s4.trans s8))
     rw[List.all_map,Yh]
     intro j hj
     have:=Yr.mp hj
     exact tN.mpr (g.lg _ ⟨z,hm,1+j,by omega,by omega,dE _⟩)
  ·intro σ H5
   refine ae.go ?_
   rintro x3 rfl s5 lg5
   rw[J3] at lg5
   exact⟨⟨_,s5.seq AJ,by omega⟩,nx _ _ ⟨x3,rfl,s5,lg5⟩⟩
 intro σ H5
 refine ae.go ?_
 rintro x3 rfl s5 lg
 have vg:=s5 _ _ n4.at
 have HR:=s5.seq AJ
 have Pn:=s4.trans s5
 refine cW (t:=qQ _ _ _) (fun σ H'=>aj H H'/\∀x∈ps,tL B ps x.1 x.2) (fun Nx nx =>?_) ?_
 ·refine⟨_,rfl,d,_,rfl,vg,fun ob =>?_⟩
  obtain⟨H6,c6⟩:∃H6,oG H5 d (.frz ob (.dK (ps.map gF))) H6:=⟨_,⟨rfl⟩⟩
  rw[<-c6.eq]
  have JQ:aj H H6:=fun b o e=>by rw[c6.ne (aq e oZ)];exact Pn b o e
  refine hX (N:=ps.length) (fun i σ H'=>cq fun(x4 x5:Option V) =>σ=[some (.ref l),some (.ref p),some (.ref d),x3,x4,x5]/\aj H6 H'/\∀x∈ps.take i,tL B ps x.1 x.2) ⟨_,_,rfl,aj.refl _,fun x h=>nomatch h⟩ ?_ ?_
  ·intro i σ H7 hi
   refine ae.go ?_
   rintro x4 x5 rfl s7 fa7
   refine⟨⟨s7 _ _ c6.at,by rw[Ja];exact hi⟩,?_⟩
   rintro y H8 ⟨rfl,kq,hkq,rfl⟩
   rw[Jk,Jd hi] at hkq
   cases hkq
   have hm:=Jo hi
   have cY:=aQ hi
   generalize ps[i]=x at hm cY
   have mq:=LY x hm
   refine gn ?_
   have Eg:=JQ.trans s7
   have Il:=Eg.seq Fl
   refine⟨_,rfl,l,rfl,⟨_,Il⟩,?_⟩
   refine bo (N:=B.length) (fun k ys H'=>aj H8 H'/\ys.length=k/\∀(j:Nat) (hj:j<B.length) (v:V),ys[j]? = some v->ON x.1 B[j].2 v) ⟨aj.refl _,rfl,fun j hj v e=>nomatch e⟩ ?_ ?_
   ·rintro k ys H9 Ny hk ⟨s9,yl,hys⟩ ny
    refine⟨⟨_,_,s9.seq Il,yJ hk⟩,small (by omega),?_⟩
    rintro y H10 ⟨rfl,hy⟩
    have e:=hy _ (s9.seq Il)
    rw[yJ hk] at e;cases e
    refine gn ?_
    dsimp only[fh]
    rw[if_pos rfl]
    refine⟨_,rfl,_,rfl,x.1,B[k].2,rfl,mq,by have:=(gB.cd _ (Jo hk)).le;omega,fun v H11 s11 hv=>ny _ _ ⟨s9.trans s11,by rw[Jf,yl];rfl,fun j hj u e =>?_⟩⟩
    by_cases hjk:j<k
    ·rw[J6 (by omega)] at e
     exact hys j hj u e
    ·rw[Jz (by omega),yl] at e
     have e0:j-k=0:=by
      cases hz:j-k with
      | zero=>rfl
      | succ n=>rw[hz] at e;cases e
     have ej:j=k:=by omega
     subst ej
     rw[e0] at e
     cases e
     exact hv
   ·rintro ys H9 ⟨s9,yl,hys⟩
    refine⟨⟨_,s9.seq Il,by omega⟩,fun wp hwp =>?_⟩
    obtain⟨H10,n10⟩:∃H10,dX H9 wp (.lst ys) H10:=⟨_,hwp,rfl⟩
    rw[<-n10.eq]
    refine⟨wp,rfl,⟨_,aK.of n10.at⟩,?_⟩
    have CN:=s7.trans (s9.trans n10.same)
    have DZ:H10 d=some (.frz ob (.dK (ps.map gF))):=CN _ _ c6.at
    have Ef:dz H10 d (.str x.1) (some (.int (x.2:Nat))) := .inl ⟨_,.inr x.1,.inr ⟨ob,DZ⟩,rfl,((jk nd).mp hm).symm⟩
    refine hX (N:=B.length) (fun j σ H'=>∃x5:Option V,σ=[some (.ref l),some (.ref p),some (.ref d),x3,some (.str x.1),x5]/\H'=H10/\∀q'∈B.take j,∀r,Bh q' x.1 r->∃n,(r,n)∈ps/\n<x.2) ⟨_,rfl,rfl,fun q' h=>nomatch h⟩ ?_ ?_
    ·intro j σ H11 hj
     refine ae.go ?_
     rintro y5 rfl rfl fa
     have ey:ys[j]? = some (ys[j]'(by omega)):=Jd (by omega)
     refine⟨⟨_,_,aK.of n10.at,ey⟩,?_⟩
     rintro y H12 ⟨rfl,hy⟩
     have e:=hy _ (aK.of n10.at)
     rw[ey] at e;cases e
     have hv:=hys j hj _ ey
     generalize ys[j]'(by omega)=v at hv
     have N8:=Jo hj
     have NH:=aQ hj
     generalize B[j]=q' at hv N8 NH
     refine gn ?_
     have more:(∀r,Bh q' x.1 r->∃n,(r,n)∈ps/\n<x.2)->∀q2∈B.take (j+1),∀r,Bh q2 x.1 r->∃n,(r,n)∈ps/\n<x.2:=fun h q2 hq2 r hb=>by
      rw[NH] at hq2
      rcases Jh.mp hq2 with hq2|hq2
      ·exact fa q2 hq2 r hb
      ·rw[Jg.mp hq2] at hb;exact h r hb
     rcases hv with ⟨rfl,zz⟩|⟨r,rfl,hlf⟩
     ·exact⟨_,rfl,.inl ⟨rfl,_,rfl,bI (bI ⟨_,rfl,rfl,more fun r hb=>absurd (qi.mp hb).1 (zz r)⟩)⟩⟩
     ·refine⟨_,rfl,.inl ⟨rfl,_,rfl,bK ⟨_,rfl,.inl ⟨rfl,_,rfl,?_⟩⟩⟩⟩
      rw[rN]
      by_cases hr0:r = ""
      ·rw[decide_eq_true hr0]
       refine bI (bI ⟨_,rfl,rfl,more fun r' hb =>?_⟩)
       have:=(qi.mp hb).1.one hlf
       exact absurd (this.trans hr0) (qi.mp hb).2
      ·rw[decide_eq_false hr0]
       have OC:Bh q' x.1 r:=qi.mpr ⟨hlf,hr0⟩
       have bad:¬(∃n,(r,n)∈ps/\n<x.2)->Q (.bl false) H12:=fun h=>no (fun g=>h (g.fa x hm q' N8 r OC)) (JQ.trans CN)
       have NN:MI H12 d := .inl ⟨_,.inr ⟨ob,DZ⟩⟩
       cases hv:aW (ps.map gF) (.inr r) with
       | none=>
        have hg:dz H12 d (.str r) none := .inl ⟨_,.inr r,.inr ⟨ob,DZ⟩,rfl,hv.symm⟩
        refine bK ⟨_,rfl,d,rfl,NN,_,rfl,_,rfl,_,rfl,d,_,rfl,Ef,_,hg,_,rfl,_,rfl,d,_,rfl,Ef,_,_,rfl,rfl,_,rfl,?_⟩
        dsimp only[Option.getD]
        rw[decide_eq_true (Yk _)]
        exact bK (bad fun⟨n,hn,_⟩=>by rw[(jk nd).mp hn] at hv;cases hv)
       | some u=>
        obtain⟨⟨r',n⟩,hp',e⟩:=Ug.mp (iU hv)
        unfold gF at e
        injection e with e1 e2
        injection e1 with e1
        have e1:r'=r:=e1
        subst e1 e2
        have hg:dz H12 d (.str r') (some (.int (n:Nat))) := .inl ⟨_,.inr r',.inr ⟨ob,DZ⟩,rfl,hv.symm⟩
        refine bK ⟨_,rfl,d,rfl,NN,_,rfl,_,rfl,_,rfl,d,_,rfl,Ef,_,hg,_,rfl,_,rfl,d,_,rfl,Ef,_,_,rfl,rfl,_,rfl,?_⟩
        dsimp only[Option.getD]
        by_cases cF:n<x.2
        ·rw[decide_eq_false (show ¬((x.2:Nat):Int)<=((n:Nat):Int) by omega)]
         refine bI ⟨_,rfl,rfl,more fun r2 hb =>?_⟩
         have:=(qi.mp hb).1.one hlf
         rw[this]
         exact⟨n,hp',cF⟩
        ·rw[decide_eq_true (show((x.2:Nat):Int)<=((n:Nat):Int) by omega)]
         refine bK (bad fun⟨n',hn',lt⟩=>?_)
         rw[(jk nd).mp hn'] at hv
         have:=Option.some.inj hv
         injection this with this
         omega
    ·intro σ H11
     refine ae.go ?_
     rintro y5 rfl rfl fa
     rw[J3] at fa
     refine⟨⟨_,aK.of n10.at,by omega⟩,_,_,rfl,CN,fun x' rK =>?_⟩
     rw[cY] at rK
     rcases Jh.mp rK with rK|rK
     ·exact fa7 x' rK
     ·rw[Jg.mp rK];exact fa
  ·intro σ H7
   refine ae.go ?_
   rintro x4 x5 rfl s7 fa7
   rw[J3] at fa7
   exact⟨⟨s7 _ _ c6.at,by rw[Ja];exact Je _⟩,nx _ _ ⟨JQ.trans s7,fa7⟩⟩
 rintro σ H6 ⟨s6,fa⟩
 exact q true H6 ⟨fun _=>⟨nd,lg,fa⟩,fun _=>rfl⟩ s6
end
noncomputable abbrev Rz:=Addr×Str×Nat
def i6 (H:Hp)(z:Rz):Prop:=H z.1=some (.tup [.str z.2.1,.int (z.2.2:Nat)])
structure Hz (H:Hp)(p:Addr)(zs:List Rz):Prop where
 l:H p=some (.lst (zs.map fun z=>V.ref z.1))
 t:∀z∈zs,i6 H z
 b:∀z∈zs,iB z.2.1/\1<=z.2.1.length/\z.2.1.length<=12/\z.2.2<=1000
 le:zs.length<=200
def wc (K:Jb):Sp:=fun vs H Q _=>cq fun(l:Addr) (B:List (Str×Str))=>vs=[.ref l]/\o7 K H B l/\eS B /\
 (∀H',aj H H'->(∃r,fw B r/\¬En (D5 B) (sg r))->Q .non H') /\
 ∀(p:Addr) (zs:List Rz) (H':Hp),aj H H'->H p=none->Hz H' p zs->Q (.ref p) H'
structure yL (B:List (Str×Str))(us:List Str)(kvs:List (Key×V)):Prop where
 nd:(kvs.map (·.1)).Nodup
 ks:∀k∈kvs.map (·.1),∃x∈us,k = .inr x
 at':∀x∈us,∃n:Nat,n<=us.length/\aW kvs (.inr x)=some (.int n)
theorem yL.no {B:List (Str×Str)}{us:List Str}{kvs:List (Key×V)}(h:yL B us kvs){x:Str}(hx:x∉us):aW kvs (.inr x)=none:=by
 cases hv:aW kvs (.inr x) with
 | none=>rfl
 | some v=>
  refine ae.el (h.ks _ (oQ hv)) _ ?_
  rintro y hy e
  injection e with e
  exact absurd (by rw[show x=y from e];exact hy) hx
theorem yL.le {B:List (Str×Str)}{us:List Str}{kvs:List (Key×V)}(h:yL B us kvs):kvs.length<=us.length:=by
 have:=bR (m:=us.map Sum.inr) h.nd fun k hk=>by
  refine ae.el (h.ks k hk) _ ?_
  rintro x hx rfl
  exact U5 hx
 rwa[Ja,Ja] at this
theorem yL.more {B:List (Str×Str)}{us:List Str}{kvs:List (Key×V)}(h:yL B us kvs){x:Str}(hx:x∉us){m:Nat}(hm:m<=us.length+1):yL B (us++[x]) (kvs++[(.inr x,.int (m:Nat))]):=by
 have hv:=h.no hx
 have val:∀y,aW (kvs++[(.inr x,V.int (m:Nat))]) (.inr y)=if (Sum.inr y:Key) = .inr x then some (.int (m:Nat)) else aW kvs (.inr y):=fun y=>by rw[<-dH (V.int (m:Nat)) hv,pM]
 have hl:(us++[x]).length=us.length+1:=by rw[Jf];rfl
 refine⟨?_,fun k hk =>?_,fun y hy =>?_⟩
 ·rw[Jl]
  exact List.nodup_append.mpr ⟨h.nd,by simp,fun a ha b hb e=>kG hv (by have z:b = .inr x:=Jg.mp hb;rw[<-z,<-e];exact ha)⟩
 ·rw[Jl] at hk
  rcases Jh.mp hk with hk|hk
  ·refine ae.el (h.ks k hk) _ ?_
   rintro y hy e
   exact⟨y,Uc _ hy,e⟩
  ·exact⟨x,Ji _ (Jg.mpr rfl),Jg.mp hk⟩
 ·rw[val]
  rcases Jh.mp hy with hy|hy
  ·rw[if_neg (fun e=>hx (by injection e with e;rw[<-show y=x from e];exact hy))]
   refine ae.el (h.at' y hy) _ ?_
   rintro n hn e
   exact⟨n,by omega,e⟩
  ·rw[Jg.mp hy,if_pos rfl]
   exact⟨m,by omega,rfl⟩
section
variable {P:Program}{w:World}{K:Jb}{mg:Str->Option Value}{base:Heap}{f:Addr}{fd:FuncData}
theorem cI:aO ["book", "lags", "ending", "codes", "ranks", "lag", "counts"] ["book"] (aA (top hZ)):=⟨rfl,rfl,rfl,by decide +kernel,rfl,by decide +kernel,by decide +kernel⟩
theorem EA (F:dj K "ranks_of" "ranks_of" (top hZ) f fd)(T:Nm mg)(jc:Fn P w K mg base 4 "lags_of" ["book"] (xB K))(lZ:Fn P w K mg base 5 "ending_lags" ["book"] (yW K))(cQ:Fn P w K mg base 2 "lags_behind" ["book", "lag"] (u0 K)):bW P w K mg base fI 6 f fd ["book"] (wc K):=by
 refine F.ok cI (fun vs H Q E h =>?_) (fun dZ A outer s H vs Q E hr h =>?_)
 ·obtain⟨l,B,rfl,_⟩:=h
  rfl
 unfold wc at h
 refine ae.el h _ ?_
 clear h
 rintro l B rfl hB gB q0 q
 have hu:=jB hr
 have eK:=hr.units
 have hle:=gB.le
 have small:∀{n:Nat},n<=10000->n<sizeLine:=fun h=>Ub h (by decide)
 refine⟨_,(ah (aN (i:=1) cI.nd rfl (Or.inl rfl) (aP (jc.mono (by decide)) hr rfl (aa (pv 0) ag)))
  (ah (aN (i:=2) cI.nd rfl (Or.inl rfl) (aP (lZ.mono (by decide)) hr rfl (aa (pv 0) ag)))
  (ah (bS (aI (tE K eK) (aw jq rfl T.n_len (by rfl) (aa (pv 2) ag)) (aw (dy K) rfl T.n_len (by rfl) (aa (pv 1) ag)) (aL _)) (au (aJ e7)) aV)
  (ah (pE (i:=3) cI.nd rfl (Or.inl rfl) rfl (aM (Nc:=["name", "code"]) (Fc:=[]) (js:=[])) (iA K (pv 0)) (eY (aU (az (i:=0) (n:=2) (by decide)) (aU (az (i:=1) (n:=2) (by decide)) dB aF bp) aF (bz aF bp))) (fun _ _ _ _ _=>(tupK K 2 rfl (aG (av (i:=0) (d4 ["name", "code"]) rfl (Or.inl rfl)) (aG (av (i:=1) (d4 ["name", "code"]) rfl (Or.inl rfl)) cy)))) (fun _ _ _ _ _=>aX) (fun _ _ _ _ _=>(pv 1)) (fun _ _ _ _ _=>dk))
  (ah (aN (i:=4) cI.nd rfl (Or.inr rfl) xa)
  (ah (fH PassesOwn.never rfl (kM (pv 2)) (av (i:=5) cI.nd rfl (Or.inl rfl)) (ah (bV (i:=6) cI.nd rfl (Or.inl rfl) rfl (aM (Nc:=["name", "code", "later"]) (Fc:=["ranks"]) (js:=[4])) (iA K (aP (cQ.mono (by decide)) hr rfl (aa (pv 0) (aa (pv 5) ag)))) (eY (aU (az (i:=0) (n:=3) (by decide)) (aU (az (i:=1) (n:=3) (by decide)) (aU (az (i:=2) (n:=3) (by decide)) dB aF bp) aF (bz aF bp)) aF (bz aF (bz aF bp)))) (fun _ _ _ _ _=>(tupK K 3 rfl (aG (av (i:=0) (d4 ["name", "code", "later", "ranks"]) rfl (Or.inl rfl)) (aG (av (i:=1) (d4 ["name", "code", "later", "ranks"]) rfl (Or.inl rfl)) (aG (av (i:=2) (d4 ["name", "code", "later", "ranks"]) rfl (Or.inl rfl)) cy))))) (fun _ _ _ _ _=>aX) (fun _ _ _ _ _=>(aH b0 ao (dh hu (pv 3) (pv 2) (fun _ _=>rfl)))))
  (au (om hu (pv 4) (pv 5) (ju (maxD K rfl) rfl T.n_max (by rfl) (aa (pv 6) ag) (mZ (kJ (q5 (j6 hu (pv 5) (pv 3))) ao ao) rH)) rfl))))
  (au (aJ (br rfl (aM (Nc:=["lag"]) (Fc:=["ranks"]) (js:=[4])) (iA K (pv 1)) (az (i:=0) (n:=1) (by decide)) (fun _ _ _ _ _=>(av (i:=0) (d4 ["lag", "ranks"]) rfl (Or.inl rfl))) (fun _ _ _ _ _=>aX) (fun _ _ _ _ _=>(fT (aa (pv 0) (aa (dh hu (pv 1) (pv 0) (fun _ _=>rfl)) ag))))))))))))),?_⟩
 refine⟨_,rfl,l,B,rfl,hB,gB,fun ts p1 H1 s1 hp10 hW nd tl mem=>gn ?_⟩
 refine⟨_,rfl,l,B,rfl,hB.same s1,gB,fun d E H2 s2 hd0' hd2 ndE ordE eL ek=>gn ?_⟩
 have HG:=s1.trans s2
 have oZ:H d=none:=by
  cases e:H d with
  | none=>rfl
  | some o=>rw[s1 _ _ e] at hd0';cases hd0'
 have qB:=s2 _ _ hW
 dsimp only
 refine⟨_,rfl,d,_,rfl,hd2,_,rfl,_,_,rfl,.inl ⟨_,aK.of qB,rfl⟩,.inl ⟨rfl,_,rfl,?_⟩⟩
 rw[Ja,Ja]
 have sub:∀r∈E,r∈ts:=fun r hr=>(mem r).mpr (eL r hr)
 have HP:(∀r∈ts,r∈E)↔E.length=ts.length:=by
  refine⟨fun h =>?_,fun h r hr=>Classical.byContradiction fun hn =>?_⟩
  ·have:=bR nd h;have:=bR ndE sub;omega
  ·have:=bR (l:=r::E) (m:=ts) (U1.mpr ⟨hn,ndE⟩) fun x hx=>by
    rcases Uh.mp hx with e|hx
    ·rw[e];exact hr
    ·exact sub x hx
   rw[J0] at this;omega
 by_cases hlen:E.length=ts.length
 rotate_left
 ·rw[decide_eq_false (fun z=>hlen (by injection z with z;omega))]
  refine bK (q0 _ HG ?_)
  have:¬ ∀r∈ts,r∈E:=fun h=>hlen (HP.mp h)
  exact Classical.byContradiction fun zz=>this fun r hr=>Classical.byContradiction fun hn=>zz ⟨r,(mem r).mp hr,fun he=>hn (he.mem ek r ((mem r).mp hr) rfl)⟩
 rw[decide_eq_true (by rw[hlen])]
 refine bI ?_
 have IT:∀r,fw B r↔r∈E:=fun r=>⟨fun h=>HP.mpr hlen r ((mem r).mpr h),eL r⟩
 have Pf:=hB.same HG
 dsimp only[xp]
 refine dc (te:=j8 _ _ _ _ _ _ _) (fun v H'=>cq fun(cd:Addr) (kvs:List (Key×V))=>v = .ref cd/\aj H2 H'/\H2 cd=none/\H' cd=some (.dK kvs)) (fun Qn qn =>?_) ?_
 ·obtain⟨vs,hv,yP⟩:=Pf
  have Bf:=oO yP
  refine⟨_,rfl,l,rfl,⟨_,hv⟩,fun D hD =>?_⟩
  refine⟨fun i m H'=>∃kvs:List (Key×V),m=B.length-i/\i<=B.length/\aj H2 H'/\H' D=some (.dK kvs)/\kvs.length<=i,⟨_,[],rfl,Um _,bj hD _,ax,Je _⟩,?_⟩
  intro i m H3
  refine ae.go ?_
  rintro kvs rfl hi s3 hD3 kl
  by_cases cF:i<B.length
  ·refine ae.el (qm yP cF) _ ?_
   rintro tp e1 e2
   refine .inr ⟨⟨_,_,s3.seq hv,e1⟩,?_⟩
   rintro y H4 ⟨rfl,hy⟩
   have e:=hy _ (s3.seq hv)
   rw[e1] at e;cases e
   refine⟨tp,_,rfl,s3.jd e2,rfl,_,_,rfl,_,_,rfl,rfl,?_⟩
   dsimp only[fh]
   rw[if_pos rfl]
   generalize B[i]=z
   refine⟨_,rfl,kvs,.inr z.2,hD3,rfl,small (by omega),B.length-(i+1),by omega,_,rfl,cF,fun b o e =>?_,ax,?_⟩
   ·rw[ak (aq e hD)];exact s3 b o e
   ·have:=dF kvs (.inr z.2) (V.bl true);omega
  ·have e:i=B.length:=by omega
   subst e
   exact .inl ⟨⟨_,s3.seq hv,by omega⟩,qn _ _ ⟨D,kvs,rfl,s3,hD,hD3⟩⟩
 intro v H3
 refine ae.go ?_
 rintro cd kvs rfl s3 hcd0 hcd3
 refine gn ?_
 refine fun dl H4 n4=>gn ?_
 have Kr:=s3.trans n4.same
 have Gq:=Kr _ _ hd2
 have Kt:=n4.same _ _ hcd3
 have E8:H dl=none:=by
  cases e:H dl with
  | none=>rfl
  | some o=>have:=n4.nn;rw[s3 _ _ (HG _ _ e)] at this;cases this
 have JE:d≠dl:=aq (s3 _ _ hd2) n4.nn
 have OG:cd≠dl:=aq hcd3 n4.nn
 have PU:p1≠dl:=aq (s3 _ _ qB) n4.nn
 have pd:p1≠d:=fun z=>by rw[z,hd2] at qB;cases qB
 dsimp only
 refine cW (t:=qQ _ _ _) (fun σ H'=>cq fun(x5 x6:Option V)=>∃rks:List (Key×V),σ=[some (.ref l),some (.ref p1),some (.ref d),some (.ref cd),some (.ref dl),x5,x6]/\aj H H'/\H' p1=some (.lst (ts.map V.str))/\H' dl=some (.dK rks)/\yL B E rks) (fun Nx nx =>?_) ?_
 ·refine⟨_,rfl,d,_,rfl,Gq,fun ob =>?_⟩
  obtain⟨H5,c5⟩:∃H5,oG H4 d (.frz ob (.dK (E.map dP))) H5:=⟨_,⟨rfl⟩⟩
  rw[<-c5.eq]
  have s5:aj H H5:=fun b o e=>by rw[c5.ne (aq e oZ)];exact Kr _ _ (HG b o e)
  have pU:cd≠d:=fun z=>by rw[z,hd2] at hcd0;cases hcd0
  have Ks:H5 cd=some (.dK kvs):=by rw[c5.ne pU];exact Kt
  have DL:H5 dl=some (.dK []):=by rw[c5.ne (Ne.symm JE)];exact n4.at
  have jV:H5 p1=some (.lst (ts.map V.str)):=by rw[c5.ne pd];exact Kr _ _ qB
  have FQ:(E.map dP).length=E.length:=Ja _
  refine hX (N:=E.length) (fun i σ H'=>cq fun(x5 x6:Option V)=>∃rks:List (Key×V),σ=[some (.ref l),some (.ref p1),some (.ref d),some (.ref cd),some (.ref dl),x5,x6]/\(∀b o,b≠dl->H5 b=some o->H' b=some o)/\H' dl=some (.dK rks)/\yL B (E.take i) rks) ⟨_,_,[],rfl,(fun b o _ e=>e),DL,⟨Wm,(fun k h=>nomatch h),fun x h=>nomatch h⟩⟩ ?_ ?_
  ·intro i σ H6 hi
   refine ae.go ?_
   rintro x5 x6 rks rfl k6 hdl6 dls
   refine⟨⟨k6 _ _ JE c5.at,by rw[FQ];exact hi⟩,?_⟩
   rintro v H7 ⟨rfl,kq,hkq,rfl⟩
   rw[Jk,Jd hi] at hkq
   cases hkq
   have cY:=aQ hi
   have kR:=eL _ (Jo hi)
   have Gr:E[i]∉E.take i:=fun h=>by
    refine ae.el (Yq.mp h) _ ?_
    rintro j hj e
    rw[J1] at hj
    rw[List.getElem_take] at e
    have:=(List.getElem_inj ndE).mp e
    omega
   have cF:=ordE (E.take i) E[i] (E.drop (i+1)) (by rw[List.getElem_cons_drop,Ye])
   generalize E[i]=x at cY kR Gr cF
   have mq:=kR.len gB
   have OV:=dls.le
   have Q7:(E.take i).length<=200:=by rw[J1];omega
   have s7:aj H H7:=fun b o e=>k6 b o (aq e E8) (s5 b o e)
   have IZ:=k6 _ _ OG Ks
   refine gn ?_
   show we _ _ _ ([some (.ref l),some (.ref p1),some (.ref d),some (.ref cd),some (.ref dl),some (.str x),x6]:L2.St) _
   refine dc (te:=fY _ _ _ _ _ _) (fun v H'=>cq fun(fp:Addr) (ns:List Nat)=>v = .ref fp/\aj H7 H'/\H' fp=some (.lst (nI ns))/\∀a∈ns,a<=i+1) (fun Qn qn =>?_) ?_
   ·refine⟨_,rfl,_,rfl,l,x,B,rfl,hB.same s7,gB,by omega,fun as p9 H9 s9 hp90 uw al ha hcv=>⟨p9,rfl,⟨_,aK.of uw⟩,?_⟩⟩
    have yc:∀{j:Nat} (hj:j<as.length),(as.map fun z=>V.ref z.1)[j]? = some (.ref as[j].1):=fun hj=>by rw[Jk,Jd hj];rfl
    have JA:=s9 _ _ hdl6
    refine bo (N:=as.length) (fun j ys H'=>H'=H9/\∃ns:List Nat,ys=nI ns/\ns.length=j/\∀a∈ns,a<=i+1) ⟨rfl,[],rfl,rfl,fun a h=>nomatch h⟩ ?_ ?_
    ·intro j ys H10 Ny hj hz_ ny
     refine ae.el hz_ _ ?_
     clear hz_
     rintro rfl ns rfl nl nm
     refine⟨⟨_,_,aK.of uw,yc hj⟩,small (by unfold nI;rw[Ja];omega),?_⟩
     rintro v H11 ⟨rfl,hv⟩
     have e:=hv _ (aK.of uw)
     rw[yc hj] at e;cases e
     refine ae.el (ha _ (Jo hj)) _ ?_
     rintro hz hzB hzb
     generalize as[j]=z at hz hzB hzb
     refine⟨_,_,rfl,fP.of hz,rfl,_,_,rfl,_,_,rfl,_,_,rfl,rfl,?_⟩
     refine ae.el (dls.at' _ (cF _ hzB _ hzb)) _ ?_
     rintro n hn ho
     rw[J1] at hn
     have yq:=dz.k (k:=Sum.inr z.2.2) JA
     rw[ho] at yq
     dsimp only[fh]
     rw[if_pos rfl]
     refine⟨_,rfl,_,rfl,dl,_,rfl,yq,.inl ⟨_,_,rfl,rfl,ny _ _ ⟨rfl,ns++[n+1],?_,by rw[Jf,nl];rfl,fun a ha' =>?_⟩⟩⟩
     ·unfold nI
      rw[Jl]
      have e:(1:Int)+(n:Int)=((n+1:Nat):Int):=by omega
      rw[e];rfl
     ·rcases Jh.mp ha' with h|h
      ·exact nm a h
      ·rw[Jg.mp h];omega
    ·intro ys H10
     refine ae.go ?_
     rintro rfl ns rfl nl nm
     exact⟨⟨_,aK.of uw,by rw[Ja];exact Je _⟩,fun p hp=>qn _ _ ⟨p,ns,rfl,s9.trans (bj hp _),ax,nm⟩⟩
   intro v H8
   refine ae.go ?_
   rintro fp ns rfl s8 GJ nm
   refine gn ?_
   have M7:=s8 _ _ IZ
   have KS:=s8 _ _ hdl6
   have ei:nI ns=(ns.map fun n:Nat=>(n:Int)).map V.int:=by unfold nI;rw[Y9];rfl
   rw[ei] at GJ
   have fin:∀{m:Nat},m<=i+1->∃H9,pI H8 dl (.str x) (.int (m:Nat)) H9/\(∀b o,b≠dl->H5 b=some o->H9 b=some o)/\H9 dl=some (.dK (rks++[(.inr x,.int (m:Nat))]))/\yL B (E.take (i+1)) (rks++[(.inr x,.int (m:Nat))]):=fun{m} hm=>by
    refine⟨_,pI.k (k:=Sum.inr x) KS (small (by omega)),?_⟩
    rw[dH _ (dls.no Gr)]
    exact⟨fun b o hb e=>by rw[ak hb];exact s8 _ _ (k6 b o hb e),ax,by rw[cY];exact dls.more Gr (by rw[J1];omega)⟩
   have big:∀{M:Int} {d0:Nat},d0<=1->((ns.map fun n:Nat=>(n:Int))=[]/\M=d0)∨(M∈(ns.map fun n:Nat=>(n:Int))/\∀a∈(ns.map fun n:Nat=>(n:Int)),a<=M)->∃m:Nat,M=m/\m<=i+1:=fun{M d0} oZ hM=>by
    rcases hM with ⟨_,e⟩|⟨hM,_⟩
    ·exact⟨d0,e,by omega⟩
    ·obtain⟨m,hm,rfl⟩:=Ug.mp hM
     exact⟨m,rfl,nm m hm⟩
   refine⟨_,rfl,_,rfl,_,rfl,cd,_,rfl,dz.k (k:=Sum.inr x) M7,_,rfl,fe (fun c =>?_) (fun c =>?_)⟩
   ·refine⟨fp,_,1,rfl,rfl,aK.of GJ,fun M hM =>?_⟩
    refine ae.el (big (d0:=1) (by decide) hM) _ ?_
    rintro m rfl hm
    refine ae.el (fin hm) _ ?_
    rintro H9 hput f1 f2 f3
    exact⟨_,rfl,_,rfl,dl,H9,rfl,hput,_,_,_,rfl,f1,f2,f3⟩
   ·refine⟨fp,_,0,rfl,rfl,aK.of GJ,fun M hM =>?_⟩
    refine ae.el (big (d0:=0) (by decide) hM) _ ?_
    rintro m rfl hm
    refine ae.el (fin hm) _ ?_
    rintro H9 hput f1 f2 f3
    exact⟨_,rfl,_,rfl,dl,H9,rfl,hput,_,_,_,rfl,f1,f2,f3⟩
  ·intro σ H6
   refine ae.go ?_
   rintro x5 x6 rks rfl k6 hdl6 dls
   rw[J3] at dls
   exact⟨⟨k6 _ _ JE c5.at,by rw[FQ];exact Je _⟩,nx _ _ ⟨x5,x6,rks,rfl,fun b o e=>k6 b o (aq e E8) (s5 b o e),k6 _ _ PU jV,hdl6,dls⟩⟩
 intro σ H5
 refine ae.go ?_
 rintro x5 x6 rks rfl s5 jV DL dls
 have jM:∀{i:Nat} (hi:i<ts.length),(ts.map V.str)[i]? = some (.str ts[i]):=fun hi=>by rw[Jk,Jd hi];rfl
 refine⟨_,rfl,p1,rfl,⟨_,aK.of jV⟩,?_⟩
 refine bo (N:=ts.length) (fun i ys H'=>∃zs:List Rz,ys=zs.map (fun z=>V.ref z.1)/\aj H5 H'/\zs.map (·.2.1)=ts.take i/\(∀z∈zs,i6 H' z)/\∀z∈zs,z.2.2<=1000) ⟨[],rfl,aj.refl _,rfl,(fun z h=>nomatch h),fun z h=>nomatch h⟩ ?_ ?_
 ·intro i ys H6 Ny hi hz_ ny
  refine ae.el hz_ _ ?_
  clear hz_
  rintro zs rfl s6 ez hz hrk
  have zl:zs.length<=i:=by
   have:=congrArg Yj ez
   rw[Ja,J1] at this
   omega
  refine⟨⟨_,_,aK.of (s6 _ _ jV),jM hi⟩,small (by rw[Ja];omega),?_⟩
  rintro v H7 ⟨rfl,hv⟩
  have e:=hv _ (aK.of (s6 _ _ jV))
  rw[jM hi] at e;cases e
  have hl:=(IT _).mp ((mem _).mp (Jo hi))
  have cY:=aQ hi
  generalize ts[i]=x at hl cY
  refine ae.el (dls.at' x hl) _ ?_
  rintro n hn ho
  have yq:=dz.k (k:=Sum.inr x) (s6 _ _ DL)
  rw[ho] at yq
  refine gn ?_
  dsimp only[fh]
  rw[if_pos rfl]
  refine⟨_,rfl,_,rfl,_,rfl,dl,_,rfl,yq,by show 2<=sizeLine;decide,fun t H8 n8=>ny _ _ ⟨zs++[(t,x,n)],by rw[Jl];rfl,s6.trans n8.same,by rw[Jl,ez,cY];rfl,fun z hz' =>?_,fun z hz' =>?_⟩⟩
  ·rcases Jh.mp hz' with hz'|hz'
   ·exact n8.same _ _ (hz z hz')
   ·rw[Jg.mp hz'];exact n8.at
  ·rcases Jh.mp hz' with hz'|hz'
   ·exact hrk z hz'
   ·rw[Jg.mp hz'];show n<=1000;omega
 ·intro ys H6
  refine ae.go ?_
  rintro zs rfl s6 ez hz hrk
  rw[J3] at ez
  refine⟨⟨_,aK.of (s6 _ _ jV),by rw[Ja];exact Je _⟩,fun p hp=>q p zs _ (s5.trans (s6.trans (bj hp _))) ?_ ⟨ax,fun z hz'=>bj hp _ _ _ (hz z hz'),fun z hz' =>?_,?_⟩⟩
  ·cases e:H p with
   | none=>rfl
   | some o=>rw[s6 _ _ (s5 _ _ e)] at hp;cases hp
  ·have hl:=(mem z.2.1).mp (by rw[<-ez];exact U5 hz')
   have h1:=hl.len gB
   exact⟨m6 gB hl,h1.2,h1.1,hrk z hz'⟩
  ·have:=congrArg Yj ez
   rw[Ja] at this
   omega
end
open PySem.Builtin.Str
theorem Lj {i:Int}(h:i.natAbs<2^31):PyData.weight (.int i)<=32:=by
 simp only[PyData.weight]
 split
 ·omega
 ·rename_i h0
  have qO:i.natAbs≠0:=fun z=>h0 (by rw[Int.natAbs_eq_zero.mp z];rfl)
  have:=(Nat.log2_lt qO).mpr h
  omega
theorem KI {w dp:Nat}{i:Int}(h:i.natAbs<2^31)(hw:32<=w):Gd w dp (.int i):=⟨by simp only[Pz];exact decide_eq_true (Jt h (by decide)),Jr (Lj h) hw,by simp[PyData.depth]⟩
theorem Mi:∀c,c<128->∀d∈reprChar 39 c,d<128:=by decide +kernel
theorem KJ:∀c,c<128->∀d∈reprChar 34 c,d<128:=by decide +kernel
theorem lA (q:Nat)(hq:∀c,c<128->∀d∈reprChar q c,d<128):∀(l:List Nat) (acc:Array Nat),(∀c∈l,c<128)->(∀c∈acc.toList,c<128)->∀c∈(l.foldl (fun out c=>out++(reprChar q c).toArray) acc).toList,c<128
 | [],acc,_,h=>h
 | a::l,acc,hl,h=>lA q hq l _ (fun c hc=>hl c (Jn _ hc)) fun c hc=>by
  rw[Ut] at hc
  rcases Jh.mp hc with hc|hc
  ·exact h c hc
  ·exact hq a (hl a Jq) c hc
theorem sL {x:Str}(hx:∀c∈x.cps.toList,c<128):∀c∈(reprText x).cps.toList,c<128:=by
 have hq:reprQuote x=34∨reprQuote x=39:=by unfold reprQuote;split<;>simp
 have hr:∀c,c<128->∀d∈reprChar (reprQuote x) c,d<128:=by
  rcases hq with e|e<;>rw[e]
  ·exact KJ
  ·exact Mi
 have oj:reprQuote x<128:=by omega
 intro c hc
 unfold reprText at hc
 rw[U9,<-Array.foldl_toList] at hc
 rcases Jh.mp hc with hc|hc
 ·exact lA _ hr _ _ hx (fun d hd=>by
   have:d=reprQuote x:=by simpa using hd
   rw[this];exact oj) c hc
 ·rw[Jg.mp hc];exact oj
theorem iP {x:Str}:vL x=true ↔ ∀c∈x.cps.toList,c<128:=by
 unfold vL
 rw[Array.all_eq_true_iff_forall_mem]
 exact⟨fun h c hc=>by have:=h c (by simpa using hc);simpa using this,fun h c hc=>decide_eq_true (h c (by simpa using hc))⟩
theorem km {ts:List Str}(h:∀t∈ts,∀c∈t.cps.toList,c<128):∀c∈(Str.join ", " ts).cps.toList,c<128:=fun c hc=>by
 rcases(mem_join _ c ts).mp hc with ⟨t,ht,hc⟩|⟨_,hc⟩
 ·exact h t ht c hc
 ·rw[signs_sep] at hc
  simp at hc
  omega
mutual
theorem jD:∀(d:PyData),Pz d=true->∀c∈d.shown.cps.toList,c<128
 | .none,_=>by rw[PyData.shown_none];decide +kernel
 | .bool b,_=>fun c hc=>by
  rw[mem_shown_bool] at hc
  cases b
  ·simp at hc;omega
  ·simp at hc;omega
 | .int i,_=>fun c hc=>by
  by_cases h:c<128
  ·exact h
  ·exact absurd hc (shown_int_free' ⟨by omega,.inr (by omega)⟩ i)
 | .str x,h=>by
  have h:vL x=true:=by simpa only [Pz] using h
  rw[show(PyData.str x).shown=reprText x by simp only[PyData.shown]]
  exact sL (iP.mp h)
 | .list ds,h=>fun c hc=>by
  rw[PyData.shown_list,mem_cps_append,mem_cps_append,signs_lbrack,signs_rbrack] at hc
  rcases hc with (hc|hc)|hc
  ·simp at hc;omega
  ·exact km (ee ds (by simpa only [Pz] using h)) c hc
  ·simp at hc;omega
 | .tuple ds,h=>fun c hc=>by
  rw[PyData.shown_tuple,mem_cps_append,mem_cps_append,signs_lparen] at hc
  rcases hc with (hc|hc)|hc
  ·simp at hc;omega
  ·exact km (ee ds (by simpa only [Pz] using h)) c hc
  ·split at hc
   ·rw[show((",)" : String):Str).cps.toList=[44,41] by decide] at hc
    simp at hc;omega
   ·rw[show((")" : String):Str).cps.toList=[41] by decide] at hc
    simp at hc;omega
 | .dict _,h=>by simp[Pz] at h
theorem ee:∀(ds:List PyData),Aa ds=true->∀t∈PyData.shownAll ds,∀c∈t.cps.toList,c<128
 | [],_=>fun t ht=>by rw[PyData.shownAll_nil] at ht;cases ht
 | d::ds,h=>fun t ht=>by
  simp only[Aa,Uv] at h
  rw[PyData.shownAll_cons,Uh] at ht
  rcases ht with e|ht
  ·rw[e];exact jD d h.1
  ·exact ee ds h.2 t ht
end
structure Th (K:Jb)(G:Hp)(d:PyData)(v:V):Prop where
 ask:mK K G d v
 fit:d.showable=true/\d.depth<=40/\d.shown.length<=sizeLine
theorem Th.same {K:Jb}{G G':Hp}{d:PyData}{v:V}(h:Th K G d v)(s:aj G G'):Th K G' d v:=⟨⟨h.ask.den.same s,h.ask.pz,h.ask.wt,h.ask.pG⟩,h.fit⟩
theorem mD {K:Jb}{G:Hp}{d:PyData}{v:V}(h:Den K G d v)(g:Gd 27000 5 d)(pG:∀ds,d = .list ds->ds.length<=1000):Th K G d v:=by
 obtain⟨h1,h2,h3⟩:=lL d g.pz
 have:=g.wt
 have:=g.dp
 exact⟨⟨h,g.pz,by omega,pG⟩,h2,by omega,sizeOk (by omega)⟩
theorem B1 {K:Jb}{G:Hp}{x:Str}(h:vL x=true)(hl:x.length<=700000):Th K G (.str x) (.str x):=by
 refine⟨⟨by unfold Den;rfl,by simpa only [Pz] using h,?_,fun ds e=>nomatch e⟩,rfl,by simp[PyData.depth],?_⟩
 ·simp only[PyData.weight]
  have e:x.cps.size=x.length:=rfl
  omega
 ·have:=StrLaws.reprText_len x fun c hc=>Jt (iP.mp h c hc) (by decide)
  rw[show(PyData.str x).shown=reprText x by simp only[PyData.shown]]
  exact sizeOk (by omega)
theorem xZ {K:Jb}{G:Hp}{ds:List PyData}(g:Gd 13000 4 (.list ds)):Th K G (.str (Ah (.list ds))) (.str (Ah (.list ds))):=by
 refine B1 (iP.mpr (jD _ g.pz)) ?_
 obtain⟨h1,h2,h3⟩:=lL _ g.pz
 have:=g.wt
 show(PyData.list ds).shown.length<=_
 omega
theorem mw {K:Jb}{H:Hp}:∀{ds:List PyData} {vs:List V} (i:Nat),aB K H ds vs->aB K H (ds.take i) (vs.take i)
 | _,_,0,_=>by rw[List.take_zero,List.take_zero];unfold aB;rfl
 | [],vs,i+1,h=>by unfold aB at h;rw[h];unfold aB;rfl
 | d::ds,vs,i+1,h=>by
  unfold aB at h
  obtain⟨v,r,rfl,h1,h2⟩:=h
  rw[List.take_succ_cons,List.take_succ_cons]
  unfold aB
  exact⟨v,r.take i,rfl,h1,mw i h2⟩
theorem mT {K:Jb}{H:Hp}:aB K H [] []:=by unfold aB;rfl
theorem dR {K:Jb}{H:Hp}{d:PyData}{v:V}{ds:List PyData}{vs:List V}(h:Den K H d v)(g:aB K H ds vs):aB K H (d::ds) (v::vs):=by unfold aB;exact⟨_,_,rfl,h,g⟩
theorem mf {K:Jb}{G:Hp}{p:Addr}{ds:List PyData}{vs:List V}(h:G p=some (.tup vs))(g:aB K G ds vs):Den K G (.tuple ds) (.ref p):=by unfold Den;exact⟨p,vs,rfl,fP.of h,g⟩
theorem BH {K:Jb}{G:Hp}{p:Addr}{ds:List PyData}{vs:List V}(h:G p=some (.lst vs))(g:aB K G ds vs):Den K G (.list ds) (.ref p):=by unfold Den;exact⟨p,vs,rfl,aK.of h,g⟩
section
variable {K:Jb}{b c:Addr}{t:Int}{n m:Nat}{H H':Hp}{v u:V}{Q:VK}
def Pl (K:Jb)(b c:Addr)(n:Nat)(H:Hp)(v:V):Prop:=gO fun(p:Addr) (vs:List V) (ds:List PyData)=>v = .ref p/\H p=some (.lst vs)/\p≠b/\p≠c/\aB K (bM H b c) ds vs/\(∀d∈ds,Gd 60 3 d)/\ds.length<=n
theorem Pl.same (h:Pl K b c n H v)(s:aj H H'):Pl K b c n H' v:=by
 obtain⟨p,vs,ds,rfl,h1,h2,h3,h4,h5⟩:=h
 exact⟨p,vs,ds,rfl,s _ _ h1,h2,h3,h4.same (aj.bM s),h5⟩
theorem Pl.out (h:Pl K b c n H v)(hn:n<=410):∃ds,Den K (bM H b c) (.list ds) v/\Gd 26000 4 (.list ds)/\ds.length<=n:=by
 obtain⟨p,vs,ds,rfl,h1,h2,h3,h4,h5,h6⟩:=h
 have hw:∀(es:List PyData),(∀d∈es,Gd 60 3 d)->Gs (61*es.length) 3 es:=fun es=>by
  induction es with
  | nil=>exact fun _=>Gs.nil
  | cons e es ih=>intro h;have r:=Gs.cons (h e Jq) (ih fun d hd=>h d (Jn _ hd));exact r.mono (by rw[J0];omega) (Je _)
 exact⟨ds,Den.list (aK.of (by rw[bZ h2 h3];exact h1)) h4,((hw ds h5).list).mono (by omega) (by decide),h6⟩
theorem BP {p:Addr}{o:HO}(bx:Bx H b c t)(n1:dX H p o H'):p≠b/\p≠c/\aj H H'/\Bx H' b c t:=⟨(bx.aY n1.nn).1,(bx.aY n1.nn).2,n1.same,bx.same n1.same⟩
theorem rE {p:Addr}{vs:List V}{ds:List PyData}(bx:Bx H b c t)(n1:dX H p (.lst vs) H')(hd:aB K (bM H b c) ds vs)(hg:∀d∈ds,Gd 60 3 d)(hl:ds.length<=n):Pl K b c n H' (.ref p):=by
 obtain⟨pb,pc,s,_⟩:=BP bx n1
 exact⟨p,vs,ds,rfl,n1.at,pb,pc,hd.same (aj.bM s),hg,hl⟩
theorem xF {ds:List PyData}{vs:List V}(h:aB K H ds vs)(i j:Nat):aB K H ((ds.drop i).take j) ((vs.drop i).take j):=by
 refine mw j ?_
 have hl:=h.len
 refine aB.of_get (by rw[Ui,Ui,hl]) fun k d v h1 h2 =>?_
 rw[List.getElem?_drop] at h1 h2
 obtain⟨v',e1,e2⟩:=h.get h1
 rw[h2] at e1;cases e1;exact e2
theorem Hl (bx:Bx H b c t)(h:Pl K b c n H v)(lo hi:Option Int)(q:∀v' H',aj H H'->Bx H' b c t->Pl K b c n H' v'->Q v' H'):Ds K v lo hi H Q:=by
 obtain⟨p,vs,ds,rfl,h1,h2,h3,h4,h5,h6⟩:=h
 refine .inl ⟨p,vs,rfl,aK.of h1,fun p' H' n'=>q _ _ n'.same (bx.same n'.same) ?_⟩
 unfold oP at n'
 refine rE bx n' (xF h4 _ _) (fun d hd=>h5 d (Y3 (Y2 hd))) ?_
 rw[J1,Ui];omega
theorem wI (bx:Bx H b c t)(h:Pl K b c n H v)(g:Pl K b c m H u)(hn:n+m<=2600)(q:∀v' H',aj H H'->Bx H' b c t->Pl K b c (n+m) H' v'->Q v' H'):wM v u H Q:=by
 obtain⟨p,vs,ds,rfl,h1,h2,h3,h4,h5,h6⟩:=h
 obtain⟨p',vs',ds',rfl,g1,g2,g3,g4,g5,g6⟩:=g
 have l1:=h4.len
 have l2:=g4.len
 refine .inr (.inr ⟨p,p',vs,vs',rfl,rfl,h1,g1,sizeOk (by omega),fun p2 H' n'=>q _ _ n'.same (bx.same n'.same) ?_⟩)
 refine rE (ds:=ds++ds') bx n' ?_ (fun d hd=>(Jh.mp hd).elim (h5 d) (g5 d)) (by rw[Jf];omega)
 refine aB.of_get (by rw[Jf,Jf];omega) fun k d v k1 k2 =>?_
 by_cases e:k<ds.length
 ·rw[J6 e] at k1
  rw[J6 (by omega)] at k2
  obtain⟨v',e1,e2⟩:=h4.get k1
  rw[k2] at e1;cases e1;exact e2
 ·rw[Jz (by omega)] at k1
  rw[Jz (by omega),l1] at k2
  obtain⟨v',e1,e2⟩:=g4.get k1
  rw[k2] at e1;cases e1;exact e2
theorem sQ {d:PyData}{p:Addr}(bx:Bx H b c t)(h:Den K (bM H b c) d v)(g:Gd 60 3 d)(n':dX H p (.lst [v]) H'):aj H H'/\Bx H' b c t/\Pl K b c 1 H' (.ref p):=by
 refine⟨n'.same,bx.same n'.same,rE (ds:=[d]) bx n' ?_ (fun e he=>by rw[Jg.mp he];exact g) (Je _)⟩
 unfold aB
 exact⟨v,[],rfl,h,by unfold aB;rfl⟩
end
def kL (K:Jb)(T0:Addr):Sp:=fun vs H Q _=>cq fun(a:Addr) (ns:List Int)=>vs=[.ref a]/\aK K H a (ns.map V.int)/\ns.length<=63/\H T0=some (.tbl #[])/\∀H',Q (.bl true) H'
def Kp (T:Addr)(H H':Hp):Prop:=∀b o,b≠T->H b=some o->H' b=some o
section
variable {K:Jb}{T:Addr}{H H':Hp}{ps:Array Value}
theorem Kp.at (k:Kp T H H')(hT:H T=some (.tbl ps)){a:Addr}{o:HO}(h:H a=some o)(ne:o ≠ .tbl ps):H' a=some o:=k _ _ (fun z=>by rw[z,hT] at h;exact ne (Option.some.inj h).symm) h
theorem Kp.seq (k:Kp T H H')(hT:H T=some (.tbl ps)){a:Addr}{vs:List V}(h:aK K H a vs):aK K H' a vs:=by
 rcases h with (h|⟨o,h⟩)|h
 ·exact .inl (.inl (k.at hT h (fun z=>nomatch z)))
 ·exact .inl (.inr ⟨o,k.at hT h (fun z=>nomatch z)⟩)
 ·exact .inr h
theorem Kp.jd (k:Kp T H H')(hT:H T=some (.tbl ps)){a:Addr}{vs:List V}(h:fP K H a vs):fP K H' a vs:=by
 rcases h with (h|⟨o,h⟩)|h
 ·exact .inl (.inl (k.at hT h (fun z=>nomatch z)))
 ·exact .inl (.inr ⟨o,k.at hT h (fun z=>nomatch z)⟩)
 ·exact .inr h
mutual
theorem Den.kp (k:Kp T H H')(hT:H T=some (.tbl ps)):∀{d:PyData} {v:V},Den K H d v->Den K H' d v
 | .none,_,h=>by unfold Den at h ⊢;exact h
 | .bool _,_,h=>by unfold Den at h ⊢;exact h
 | .int _,_,h=>by unfold Den at h ⊢;exact h
 | .str _,_,h=>by unfold Den at h ⊢;exact h
 | .list ds,_,h=>by
  unfold Den at h ⊢
  obtain⟨a,vs,h1,h2,h3⟩:=h
  exact⟨a,vs,h1,k.seq hT h2,aB.kp k hT h3⟩
 | .tuple ds,_,h=>by
  unfold Den at h ⊢
  obtain⟨a,vs,h1,h2,h3⟩:=h
  exact⟨a,vs,h1,k.jd hT h2,aB.kp k hT h3⟩
 | .dict _,_,h=>by unfold Den at h;exact h.elim
theorem aB.kp (k:Kp T H H')(hT:H T=some (.tbl ps)):∀{ds:List PyData} {vs:List V},aB K H ds vs->aB K H' ds vs
 | [],_,h=>by unfold aB at h ⊢;exact h
 | d::ds,_,h=>by
  unfold aB at h ⊢
  obtain⟨v,r,h1,h2,h3⟩:=h
  exact⟨v,r,h1,Den.kp k hT h2,aB.kp k hT h3⟩
end
theorem Kp.bx (k:Kp T H H')(hT:H T=some (.tbl ps)){b c:Addr}{t:Int}(x:Bx H b c t):Bx H' b c t:=by
 obtain⟨ns,x⟩:=x
 exact⟨ns,k.at hT x.d (fun z=>nomatch z),k.at hT x.l (fun z=>nomatch z),x.ne,x.le⟩
theorem j7 {b c:Addr}{t t' N:Int}(x:Bx H b c t)(s:Step b c H H' t t' N)(hT:H T=some (.tbl ps)):H' T=some (.tbl ps):=by
 obtain⟨ns,x⟩:=x
 exact s.old hT (fun z=>by rw[z,x.d] at hT;cases hT) (fun z=>by rw[z,x.l] at hT;cases hT)
theorem iE {b c:Addr}{t t' N:Int}{pos:Pos}{q:Str}(x:Bx H b c t)(s:Step b c H H' t t' N)(h:Tab H pos q ps):Tab H' pos q ps:=by
 obtain⟨ns,x⟩:=x
 refine h.imp id fun⟨a,e,o,vs,tk,h1,h2⟩=>⟨a,e,o,vs,tk,s.old h1 (fun z=>by rw[z,x.d] at h1;cases h1) (fun z=>by rw[z,x.l] at h1;cases h1),h2⟩
end
def CV:Sp:=fun vs H Q _=>gO fun(b c:Addr) (t:Int)=>vs=[.ref b]/\Bx H b c t/\0<=t/\t<900000 /\
 ∀(m o:Int) (tp:Addr) (H':Hp) (t':Int),1<=m->m<=8->1<=o->o<=8->Step b c H H' t t' 3->H' tp=some (.tup [.int m,.int o])->Q (.ref tp) H'
theorem lC (a:Array Nat):∀(k:Nat) (acc:Array Nat),((Jp k a).foldl (· ++ ·) acc).toList=acc.toList++(Jp k a.toList).flatten
 | 0,acc=>by simp
 | k+1,acc=>by
  rw[Yd,List.foldl_cons,lC a k,Yd]
  simp
theorem Mu {x:Str}(hx:1<=x.length)(hb:iB x){o:Int}(o0:1<=o)(o1:o<=8):(Txt.mul x 8).length<=sizeLine∨True->iB (Txt.slice (Txt.mul x 8) none (some o))/\(Txt.slice (Txt.mul x 8) none (some o)).length=o.toNat:=fun _=>by
 have e:sg (Txt.mul x 8)=(Jp 8 (sg x)).flatten:=by
  unfold Txt.mul
  rw[if_neg (by decide),if_neg (by intro h;rcases Bool.or_eq_true_iff.mp h with h|h;exact absurd h (by decide);have:=eq_of_beq h;omega)]
  show((Jp 8 x.cps).foldl (· ++ ·) #[]).toList=_
  rw[lC];simp
 have hl:(Txt.mul x 8).length=8*x.length:=by
  rw[str_len,str_len]
  show(sg (Txt.mul x 8)).length=8*(sg x).length
  rw[e,List.length_flatten,List.map_replicate,List.sum_replicate_nat]
 have hs:=Bv (x:=Txt.mul x 8) (j:=o) (by omega) (by omega)
 refine⟨fun ch hc =>?_,?_⟩
 ·have hc:ch∈sg (Txt.slice (Txt.mul x 8) none (some o)):=hc
  rw[hs,e] at hc
  have hc:=Y2 hc
  obtain⟨l,CU,hm⟩:=List.mem_flatten.mp hc
  rw[(List.mem_replicate.mp CU).2] at hm
  exact hb ch hm
 ·rw[str_len]
  show(sg _).length=_
  rw[hs,J1]
  have:(sg (Txt.mul x 8)).length=(Txt.mul x 8).length:=(str_len _).symm
  omega
theorem nQ {α:Type}[DecidableEq α]{f:Nat -> α}{k: α}:∀{i:Nat},k∈bP f i->∃j,j<i/\f j=k
 | 0,h=>by simp[bP] at h
 | i+1,h=>by
  unfold bP oneMore at h
  by_cases q:f i∈bP f i
  ·rw[if_pos q] at h
   obtain⟨j,hj,e⟩:=nQ h
   exact⟨j,by omega,e⟩
  ·rw[if_neg q] at h
   rcases Jh.mp h with h|h
   ·obtain⟨j,hj,e⟩:=nQ h
    exact⟨j,by omega,e⟩
   ·exact⟨i,by omega,(Jg.mp h).symm⟩
theorem oA {α:Type}[DecidableEq α]{f:Nat -> α}:∀{i:Nat},(bP f i).Nodup
 | 0=>Wm
 | i+1=>by
  unfold bP oneMore
  split
  ·exact oA
  ·rename_i q
   refine List.nodup_append.mpr ⟨oA,U1.mpr ⟨by simp,Wm⟩,fun a ha b hb e=>q ?_⟩
   rw[<-Jg.mp hb,<-e];exact ha
theorem qb {zs:List Str}{x:Str}(h:x∈lK zs):x∈zs:=by
 obtain⟨j,hj,e⟩:=nQ h
 rw[<-e,Yt,Jd hj]
 exact Jo hj
theorem ze {zs:List Str}(h:zs≠[]):lK zs≠[]:=fun z=>by
 cases zs with
 | nil=>exact h rfl
 | cons a r=>
  unfold lK at z
  rw[J0] at z
  unfold bP oneMore at z
  split at z
  ·rename_i q;rw[z] at q;exact(nomatch q)
  ·simp at z
theorem ones_mul (k:Nat):sg (Txt.mul (Str.ofString "1") (k:Int))=Jp k 49:=zJ 49 k
theorem wN (k:Nat):(Txt.mul (Str.ofString "1") (k:Int)).length=k:=by
 rw[str_len]
 show(sg _).length=k
 rw[ones_mul,Uo]
theorem unary (m:Nat)(hm:1<=m)(Rh:m<=8)(cs:List Str)(h:cs=(Uu m).map (cG 49 48)∨cs=(Uu m).map (cG 49 48)++[Txt.mul (Str.ofString "1") (m:Int)]):cs≠[]/\eZ cs/\(∀x∈cs,bH 8 x)/\cs.length<=9/\(∀x∈cs,x.length<=m):=by
 have ct:∀k,k<m->bH 8 (cG 49 48 k)/\(cG 49 48 k).length<=m:=fun k hk=>by
  have h1:=u7 (a:=49) (b:=48) (k:=k) (.inr rfl) (.inl rfl) (by omega)
  have h2:(cG 49 48 k).length=k+1:=by
   rw[str_len]
   show(sg (cG 49 48 k)).length=_
   rw[dC,Jf,Uo];rfl
  exact⟨⟨h1.bin,h1.pos,by omega⟩,by omega⟩
 have c1:∀x∈(Uu m).map (cG 49 48),bH 8 x/\x.length<=m:=fun x hx=>by
  obtain⟨k,hk,rfl⟩:=Ug.mp hx
  exact ct k (Yr.mp hk)
 have l1:((Uu m).map (cG 49 48)).length=m:=by rw[Ja,Yf]
 have n1:(Uu m).map (cG 49 48)≠[]:=fun z=>by rw[z] at l1;simp at l1;omega
 rcases h with rfl|rfl
 ·exact⟨n1,mR (by decide) m,fun x hx=>(c1 x hx).1,by omega,fun x hx=>(c1 x hx).2⟩
 ·have ml:=wN m
  refine⟨by simp,J8.mpr ⟨mR (by decide) m,Y6 _ _,fun x hx y hy =>?_⟩,fun x hx =>?_,by rw[Jf,l1];show m+1<=9;omega,fun x hx =>?_⟩
  ·obtain⟨k,hk,rfl⟩:=Ug.mp hx
   have hk:=Yr.mp hk
   rw[Jg.mp hy]
   refine⟨fun p =>?_,fun p =>?_⟩
   ·rw[dC,ones_mul] at p
    obtain⟨r,e⟩:=p
    have h1:((Jp k 49++[48])++r)[k]? = some 48:=by
     rw[Ul,Jz (by simp),Uo,Nat.sub_self];rfl
    rw[e,U0,if_pos hk] at h1
    exact absurd h1 (by decide)
   ·rw[dC,ones_mul] at p
    obtain⟨r,e⟩:=p
    have Ra:k+1<=m:=hk
    have hle:m<=k+1:=by
     have:=congrArg Yj e
     simp at this
     omega
    have em:m=k+1:=by omega
    subst em
    have h1:(Jp (k+1) 49++r)[k]? = some 49:=by rw[J6 (by simp),U0,if_pos (by omega)]
    rw[e,Jz (by simp),Uo,Nat.sub_self] at h1
    exact absurd h1 (by decide)
  ·rcases Jh.mp hx with hx|hx
   ·exact(c1 x hx).1
   ·rw[Jg.mp hx]
    refine⟨fun ch hc =>?_,by omega,by omega⟩
    have hc:ch∈sg (Txt.mul (Str.ofString "1") (m:Int)):=hc
    rw[ones_mul] at hc
    exact .inr (List.mem_replicate.mp hc).2
  ·rcases Jh.mp hx with hx|hx
   ·exact(c1 x hx).2
   ·rw[Jg.mp hx];omega
section
variable {P:Program}{w:World}{K:Jb}{mg:Str->Option Value}{base:Heap}{f:Addr}{fd:FuncData}
theorem nv:aO ["_law_state"] ["_law_state"] (aA (top fV)):=⟨rfl,rfl,rfl,by decide +kernel,rfl,by decide +kernel,by decide +kernel⟩
theorem G7 (F:dj K "_law_sizes" "_law_sizes" (top fV) f fd)(T:Nm mg)(aD:Fn P w K mg base 1 "_law_take" ["_law_state", "_law_many"] qM):bW P w K mg base fI 2 f fd ["_law_state"] CV:=by
 refine F.ok nv (fun vs H Q E h =>?_) (fun dZ A outer s H vs Q E hr h =>?_)
 ·obtain⟨b,c,t,rfl,_⟩:=h
  rfl
 obtain⟨b,c,t,rfl,bx,t0,t1,q⟩:=h
 have eK:=hr.units
 refine⟨_,(ah (bS (aI (ur K eK) (aP (aD.mono (by decide)) hr rfl (aa (pv 0) (aa ao ag))) ao (aL _)) (au (aJ (fT (aa (aH b0 ao (aP (aD.mono (by decide)) hr rfl (aa (pv 0) (aa ao ag)))) (aa (aH b0 ao (aP (aD.mono (by decide)) hr rfl (aa (pv 0) (aa ao ag)))) ag))))) aV)
  (au (aJ (fT (aa (aH b0 ao (aP (aD.mono (by decide)) hr rfl (aa (pv 0) (aa ao ag)))) (aa (aH b0 ao (aP (aD.mono (by decide)) hr rfl (aa (pv 0) (aa ao ag)))) ag)))))),?_⟩
 refine⟨_,rfl,b,c,t,8,rfl,bx,by omega,by omega,by decide,by decide,fun r H1 r0 r1 eQ =>.inl ⟨rfl,_,rfl,fe (fun _ =>?_) (fun _ =>?_)⟩⟩
 ·refine⟨_,rfl,b,c,_,7,rfl,eQ.bx,by omega,by omega,by decide,by decide,fun m H2 m0 m1 bN =>.inl ⟨_,_,rfl,rfl,?_⟩⟩
  refine⟨_,rfl,b,c,_,7,rfl,bN.bx,by omega,by omega,by decide,by decide,fun o H3 o0 o1 cN =>.inl ⟨_,_,rfl,rfl,by show 2<=sizeLine;decide,fun tp H4 n4 =>?_⟩⟩
  exact q (2+m) (2+o) tp H4 _ (by omega) (by omega) (by omega) (by omega) (((eQ.trans bN).trans cN).eg n4) n4.at
 ·refine⟨_,rfl,b,c,_,6,rfl,eQ.bx,by omega,by omega,by decide,by decide,fun m H2 m0 m1 bN =>.inl ⟨_,_,rfl,rfl,?_⟩⟩
  refine⟨_,rfl,b,c,_,5,rfl,bN.bx,by omega,by omega,by decide,by decide,fun o H3 o0 o1 cN =>.inl ⟨_,_,rfl,rfl,by show 2<=sizeLine;decide,fun tp H4 n4 =>?_⟩⟩
  exact q (1+m) (1+o) tp H4 _ (by omega) (by omega) (by omega) (by omega) (((eQ.trans bN).trans cN).eg n4) n4.at
end
def ug (K:Jb):Sp:=fun vs H Q _=>gO fun(b c:Addr) (t:Int)=>vs=[.ref b]/\Bx H b c t/\0<=t/\t<800000 /\
 ∀(bk:List (Str×Str)) (v:V) (H':Hp) (t':Int),eS bk->bk≠[]->yd K (bM H' b c) bk v->Step b c H H' t t' 400->Q v H'
section
variable {P:Program}{w:World}{K:Jb}{mg:Str->Option Value}{base:Heap}{f:Addr}{fd:FuncData}
theorem cJ:aO ["_law_state", "_law_way", "_law_many", "_law_most", "_law_codes"] ["_law_state"] (aA (top g9)):=⟨rfl,rfl,rfl,by decide +kernel,rfl,by decide +kernel,by decide +kernel⟩
theorem AF (F:dj K "_law_book" "_law_book" (top g9) f fd)(T:Nm mg)(dg:mg "sorted" = none)(wV:mg "set" = none)(aD:Fn P w K mg base 1 "_law_take" ["_law_state", "_law_many"] qM)(pF:Fn P w K mg base 2 "_law_sizes" ["_law_state"] CV)(rn:Fn P w K mg base 2 "_law_free" ["_law_state", "_law_many", "_law_most"] zL)(qJ:Fn P w K mg base 2 "_law_names" ["_law_state", "_law_many"] zo):bW P w K mg base fI 3 f fd ["_law_state"] (ug K):=by
 refine F.ok cJ (fun vs H Q E h =>?_) (fun dZ A outer s H vs Q E hr h =>?_)
 ·obtain⟨b,c,t,rfl,_⟩:=h
  rfl
 unfold ug at h
 refine ae.el h _ ?_
 clear h
 rintro b c t rfl bx t0 t1 q
 have eK:=hr.units
 have small:∀{n:Nat},n<=1000->n<sizeLine:=fun h=>Ub h (by decide)
 refine⟨_,(ah (aN (i:=1) cJ.nd rfl (Or.inl rfl) (aP (aD.mono (by decide)) hr rfl (aa (pv 0) (aa ao ag))))
  (ah (ke (aP (pF.mono (by decide)) hr rfl (aa (pv 0) ag)) (tupK K 2 rfl (aG (av (i:=2) cJ.nd rfl (Or.inl rfl)) (aG (av (i:=3) cJ.nd rfl (Or.inr rfl)) cy))))
  (ah (aN (i:=4) cJ.nd rfl (Or.inl rfl) (aP (rn.mono (by decide)) hr rfl (aa (pv 0) (aa (pv 2) (aa (pv 3) ag)))))
  (ah (bS (aI (ur K eK) (pv 1) ao (aL _)) (au (aN (i:=4) cJ.nd rfl (Or.inl rfl) (aw (qR rfl) rfl dg (by rfl) (aa (cC (vF rfl) rfl wV (by rfl) (aa (br rfl (aM (Nc:=["_law_code"]) (Fc:=["_law_most"]) (js:=[3])) (iA K (pv 4)) (az (i:=0) (n:=1) (by decide)) (fun _ _ _ _ _=>(av (i:=0) (d4 ["_law_code", "_law_most"]) rfl (Or.inl rfl))) (fun _ _ _ _ _=>aX) (fun _ _ _ _ _=>(bg (oU K) (aH DC (pv 0) ao) bB (bw (pv 1))))) ag)) ag)))) aV)
  (ah (bS (aI (ur K eK) (pv 1) ao (aL _)) (au (aN (i:=4) cJ.nd rfl (Or.inl rfl) (aH b0 (br rfl (aM (Nc:=["_law_k"]) (Fc:=[]) (js:=[])) (du rfl T.n_range (aa (pv 2) ag)) (az (i:=0) (n:=1) (by decide)) (fun _ _ _ _ _=>(av (i:=0) (d4 ["_law_k"]) rfl (Or.inl rfl))) (fun _ _ _ _ _=>aX) (fun _ _ _ _ _=>(aH b0 (aH DC bu (pv 0)) bu))) (aH lV (eP (aa (aH DC bu (pv 2)) ag)) (aP (aD.mono (by decide)) hr rfl (aa (pv 0) (aa ao ag))))))) aV)
  (au (aJ (rY rfl rfl T.n_list rfl T.n_zip (aa (aP (qJ.mono (by decide)) hr rfl (aa (pv 0) (aa (aw (dy K) rfl T.n_len (by rfl) (aa (pv 4) ag)) ag))) (aa (pv 4) ag)))))))))),?_⟩
 refine⟨_,rfl,b,c,t,8,rfl,bx,by omega,by omega,by decide,by decide,fun way H1 w0 w1 eQ=>gn ?_⟩
 refine⟨_,rfl,b,c,_,rfl,eQ.bx,by omega,by omega,fun m o tp H2 t2 m0 m1 o0 o1 bN htp=>⟨tp,_,rfl,fP.of htp,rfl,_,_,rfl,_,_,rfl,rfl,?_⟩⟩
 have bN:=eQ.trans bN
 have Pj:=bN.ub
 have NB:=bN.le
 refine⟨_,rfl,_,rfl,_,rfl,b,c,t2,m,o,rfl,bN.bx,by omega,by omega,m0,by omega,o0,by omega,fun cs l H3 t3 ne le fr cd cN hl ji=>gn ?_⟩
 obtain⟨lb,lc⟩:=bN.bx.aY hl
 have cN:=bN.trans cN
 have D7:∀x∈cs,bH 8 x:=fun x hx=>(cd x hx).mono (by omega)
 dsimp only
 refine cW (t:=g7 _ _ _) (fun σ H'=>cq fun(cs:List Str) (l:Addr) =>σ=[some (.ref b),some (.int way),some (.int m),some (.int o),some (.ref l)]/\l≠b/\l≠c/\cs≠[]/\cs.length<=9/\eZ cs/\(∀x∈cs,bH 8 x)/\Step b c H H' t t3 44/\H' l=some (.lst (cs.map V.str))) (fun Nx nx =>?_) ?_
 ·refine⟨_,rfl,.inl ⟨rfl,_,rfl,fe (fun _ =>?_) (fun _=>nx _ _ ⟨cs,l,rfl,lb,lc,ne,by omega,fr,D7,cN,ji⟩)⟩⟩
  have yJ:∀{k:Nat} (hk:k<cs.length),(cs.map V.str)[k]? = some (.str cs[k]):=fun hk=>by rw[Jk,Jd hk];rfl
  refine⟨_,rfl,l,rfl,⟨_,aK.of ji⟩,?_⟩
  refine bo (N:=cs.length) (fun k ys H'=>H'=H3/\ys=((cs.take k).map fun x=>Txt.slice (Txt.mul x 8) none (some o)).map V.str) ⟨rfl,rfl⟩ ?_ ?_
  ·rintro k ys H4 Ny hk ⟨rfl,rfl⟩ ny
   refine⟨⟨_,_,aK.of ji,yJ hk⟩,small (by rw[Ja,Ja,J1];omega),?_⟩
   rintro x H5 ⟨rfl,hy⟩
   have e:=hy _ (aK.of ji)
   rw[yJ hk] at e;cases e
   have hle:=(D7 _ (Jo hk)).le
   have Mt:(Txt.mul cs[k] 8).length<=1000:=by
    have e:sg (Txt.mul cs[k] 8)=(Jp 8 (sg cs[k])).flatten:=by
     have Aj:=(D7 _ (Jo hk)).pos
     generalize cs[k]=x at Aj
     unfold Txt.mul
     rw[if_neg (by decide),if_neg (by intro h;rcases Bool.or_eq_true_iff.mp h with h|h;exact absurd h (by decide);have:=eq_of_beq h;omega)]
     show((Jp 8 x.cps).foldl (· ++ ·) #[]).toList=_
     rw[lC];simp
    rw[str_len]
    show(sg (Txt.mul cs[k] 8)).length<=1000
    rw[e,List.length_flatten,List.map_replicate,List.sum_replicate_nat]
    have:cs[k].length=(sg cs[k]).length:=str_len _
    omega
   refine gn ⟨_,rfl,.inr ⟨_,_,rfl,rfl,gw (by omega) (by decide) (by decide),_,rfl,o,rfl,.inr ⟨_,rfl,Uy (small Mt),ny _ _ ⟨rfl,?_⟩⟩⟩⟩
   rw[List.take_succ_eq_append_getElem hk,Jl,Jl];rfl
  rintro ys H4 ⟨rfl,rfl⟩
  refine⟨⟨_,aK.of ji,by rw[Ja];exact Je _⟩,fun p hp =>?_⟩
  rw[J3]
  obtain⟨zs,Fy⟩:∃zs,zs=cs.map fun x=>Txt.slice (Txt.mul x 8) none (some o):=⟨_,rfl⟩
  rw[<-Fy]
  obtain⟨H5,n5⟩:∃H5,dX H4 p (.lst (zs.map V.str)) H5:=⟨_,hp,rfl⟩
  rw[<-n5.eq]
  have zl:zs.length=cs.length:=by rw[Fy,Ja]
  have ev:∀x∈zs,iB x/\x.length=o.toNat:=fun x hx=>by
   rw[Fy] at hx
   refine ae.el (Ug.mp hx) _ ?_
   rintro y hy rfl
   exact Mu (D7 y hy).pos (D7 y hy).bin o0 o1 (.inr trivial)
  have ol:(lK zs).length<=zs.length:=ic _ _
  refine⟨p,zs,rfl,aK.of n5.at,by omega,fun a H6 n6=>⟨a,lK zs,rfl,n6.at,oA,by omega,fun ms l7 H7 pm n7=>gn ?_⟩⟩
  have jo:=(cN.eg n5).eg n6
  obtain⟨lb7,lc7⟩:=jo.bx.aY n7.nn
  have E:Dn o.toNat ms:=⟨fun x hx=>(ev x (qb (pm.mem_iff.mp hx))).2,fun x hx=>(ev x (qb (pm.mem_iff.mp hx))).1,pm.nodup_iff.mpr oA⟩
  have ml:=pm.length_eq
  refine nx _ _ ⟨ms,l7,rfl,lb7,lc7,fun z =>?_,by omega,E.free,fun x hx=>⟨E.bin x hx,by rw[E.len x hx];omega,by rw[E.len x hx];omega⟩,jo.eg n7,n7.at⟩
  refine ze (zs:=zs) (fun y=>ne ?_) (J5 (by rw[<-ml,z];rfl))
  exact J5 (by rw[<-zl,y];rfl)
 clear ne le fr cd D7 ji lb lc hl
 intro σ H4
 refine ae.go ?_
 rintro cs l rfl lb lc ne le fr cd jz zW
 refine cW (t:=g7 _ _ _) (fun σ H'=>gO fun(cs:List Str) (l:Addr) (t':Int) =>σ=[some (.ref b),some (.int way),some (.int m),some (.int o),some (.ref l)]/\l≠b/\l≠c/\cs≠[]/\cs.length<=9/\eZ cs/\(∀x∈cs,bH 8 x)/\Step b c H H' t t' 45/\H' l=some (.lst (cs.map V.str))) (fun Nx nx =>?_) ?_
 ·refine⟨_,rfl,.inl ⟨rfl,_,rfl,fe (fun _ =>?_) (fun _=>nx _ _ ⟨cs,l,t3,rfl,lb,lc,ne,by omega,fr,cd,jz.more (by omega),zW⟩)⟩⟩
  obtain⟨k,rfl⟩:∃k:Nat,m=k:=⟨m.toNat,by omega⟩
  refine⟨_,rfl,_,rfl,by omega,by omega,?_⟩
  refine bo (N:=k) (fun i ys H'=>H'=H4/\ys=((Uu i).map (cG 49 48)).map V.str) ⟨rfl,rfl⟩ ?_ ?_
  ·rintro i ys H5 Ny hi ⟨rfl,rfl⟩ ny
   refine⟨by show i<((k:Nat):Int).toNat;omega,small (by rw[Ja,Ja,Yf];omega),?_⟩
   rintro x H6 ⟨rfl,rfl⟩
   refine gn ?_
   rw[show(0+(i:Int))=((i:Nat):Int) by omega]
   refine⟨_,rfl,.inr ⟨_,_,rfl,rfl,gw (by show 1<=1000;decide) (by omega) (by omega),.inr (.inl ⟨_,_,rfl,rfl,Uy (small (by rw[wN];show i+1<=1000;omega)),ny _ _ ⟨rfl,?_⟩⟩)⟩⟩
   have et:Txt.mul (Str.ofString "1") (i:Int)++Str.ofString "0" = cG 49 48 i:=by
    refine dq ?_
    rw[kf,ones_mul,dC];rfl
   rw[et,List.range_succ,Jl,Jl]
   rfl
  rintro ys H5 ⟨rfl,rfl⟩
  refine⟨by show((k:Nat):Int).toNat<=k;omega,fun p hp =>?_⟩
  obtain⟨H6,n6⟩:∃H6,dX H5 p (.lst (((Uu k).map (cG 49 48)).map V.str)) H6:=⟨_,hp,rfl⟩
  rw[<-n6.eq]
  refine⟨_,rfl,.inr ⟨_,_,rfl,rfl,gw (by show 1<=1000;decide) (by omega) (by omega),by show 1<=sizeLine;decide,fun p7 H7 n7 =>?_⟩⟩
  have jH:=(jz.eg n6).eg n7
  have Ot:=jH.ub
  have N1:=jH.le
  refine⟨_,rfl,b,c,_,2,rfl,jH.bx,by omega,by omega,by decide,by decide,fun r H8 r0 r1 gR =>?_⟩
  obtain⟨pb7,pc7⟩:=(jz.eg n6).bx.aY n7.nn
  obtain⟨pb,pc⟩:=jz.bx.aY n6.nn
  have yI:=gR.old n7.at pb7 pc7
  have KA:=gR.old (n7.same _ _ n6.at) pb pc
  have gR:=jH.trans gR
  have vE:r=0∨r=1:=by omega
  refine .inr ⟨p7,r,_,rfl,rfl,yI,by omega,by omega,?_,fun p9 H9 n9 =>?_⟩
  ·exact Uy (small (by show 1*r.toNat<=1000;omega))
  have jY:=gR.eg n9
  refine .inr (.inr ⟨p,p9,_,_,rfl,rfl,n9.same _ _ KA,n9.at,Uy (small ?_),fun pA HA nA=>gn ?_⟩)
  ·rw[Ja,Ja,Yf]
   rcases vE with e|e<;>rw[e]<;>simp<;>omega
  obtain⟨pbA,pcA⟩:=jY.bx.aY nA.nn
  obtain⟨ds,hds,hds2⟩:∃ds:List Str,(ds=(Uu k).map (cG 49 48)∨ds=(Uu k).map (cG 49 48)++[Txt.mul (Str.ofString "1") (k:Int)])/\((Uu k).map (cG 49 48)).map V.str++(Jp r.toNat [V.str (Txt.mul (Str.ofString "1") (k:Int))]).flatten=ds.map V.str:=by
   rcases vE with e|e
   ·refine⟨_,.inl rfl,?_⟩
    rw[e];exact U6 _
   ·refine⟨_,.inr rfl,?_⟩
    rw[e,Jl];rfl
  have N9:=nA.at
  rw[hds2] at N9
  refine ae.el (unary k (by omega) (by omega) ds hds) _ ?_
  rintro u1 u2 u3 u4 u5
  exact nx _ _ ⟨ds,pA,_,rfl,pbA,pcA,u1,u4,u2,u3,jY.eg nA,N9⟩
 clear ne le fr cd zW lb lc jz
 intro σ H4
 refine ae.go ?_
 rintro cs l t4 rfl lb lc ne le fr cd jz zW
 have Q8:=jz.ub
 have Rf:=jz.le
 have hlen:(cs.map V.str).length=cs.length:=Ja _
 refine⟨_,rfl,_,rfl,_,_,rfl,.inl ⟨_,aK.of zW,rfl⟩,b,c,_,_,rfl,jz.bx,by omega,by omega,by omega,by omega,fun xs l5 H5 t5 mq nd ln cS vN hl55 =>?_⟩
 have HR:=cS.old zW lb lc
 have cS:=jz.trans cS
 refine⟨_,rfl,l5,l,_,_,rfl,aK.of hl55,aK.of HR,fun H7 p as sm hp hp7 vS hpairs =>?_⟩
 have Le:xs.length=cs.length:=by omega
 refine q (xs.zip cs) (.ref p) H7 t5 ?_ (fun z=>ne ?_) (yu cS.bx hp hp7 Le vS hpairs) ((cS.trans (Step.same cS.bx sm)).more (by omega))
 ·have h1:(xs.zip cs).map (·.1)=xs:=List.map_fst_zip (by omega)
  exact⟨by rw[List.length_zip];omega,by rw[h1];exact nd,fun z hz=>(cd _ (Wb (a:=z.1) (b:=z.2) hz).2).mono (by decide),fun z hz=>(ln _ (Wb (a:=z.1) (b:=z.2) hz).1).1,fun z hz=>(ln _ (Wb (a:=z.1) (b:=z.2) hz).1).2⟩
 ·have h2:(xs.zip cs).map (·.2)=cs:=List.map_snd_zip (by omega)
  rw[<-h2,z];rfl
end
structure xH (G:Hp)(p:Addr)(zs:List Rz)(m:Nat):Prop where
 l:G p=some (.lst (zs.map fun z=>V.ref z.1))
 t:∀z∈zs,i6 G z
 b:∀z∈zs,iB z.2.1/\1<=z.2.1.length/\z.2.1.length<=18/\z.2.2<=1000000
 le:zs.length<=m
theorem xH.same {G G':Hp}{p:Addr}{zs:List Rz}{m:Nat}(h:xH G p zs m)(s:aj G G'):xH G' p zs m:=⟨s _ _ h.l,fun z hz=>s _ _ (h.t z hz),h.b,h.le⟩
theorem sv {H:Hp}{b c:Addr}{t:Int}{z:Rz}(x:Bx H b c t)(h:i6 H z):i6 (bM H b c) z:=by
 obtain⟨ns,x⟩:=x
 have h':=h
 unfold i6 at h ⊢
 rw[bZ (fun e=>by rw[e,x.d] at h;cases h) (fun e=>by rw[e,x.l] at h;cases h)]
 exact h
theorem Kp.bM {T b c:Addr}{H H':Hp}(k:Kp T H H'):Kp T (bM H b c) (bM H' b c):=fun a o ne e=>by
 obtain⟨e,h1,h2⟩:=eE e
 rw[bZ h1 h2]
 exact k a o ne e
theorem Kp.of {T:Addr}{H H':Hp}(s:aj H H'):Kp T H H':=fun a o _ e=>s a o e
theorem Kp.trans {T:Addr}{H H1 H2:Hp}(k:Kp T H H1)(k':Kp T H1 H2):Kp T H H2:=fun a o ne e=>k' a o ne (k a o ne e)
def oB (K:Jb)(T:Addr)(pos:Pos):Sp:=fun vs H Q _=>GY fun(b c l cp:Addr) (t:Int) (B:List (Str×Str))=>∃tb:Array Value,vs=[.ref b,.ref l,.ref cp]/\Bx H b c t/\0<=t/\t<900000/\o7 K (bM H b c) B l/\eS B/\bM H b c cp=some (.lst ((B.map (·.2)).map V.str))/\H T=some (.tbl tb)/\Tab H pos qo tb /\
 ∀(p:Addr) (zs:List Rz) (H':Hp) (t':Int) (sV:Array Value),t<=t'->t'<=t+30->Bx H' b c t'->Kp T (bM H b c) (bM H' b c)->H' T=some (.tbl sV)->Tab H' pos qo sV->xH (bM H' b c) p zs 201->Q (.ref p) H'
theorem o7.kp {K:Jb}{T l:Addr}{H H':Hp}{tb:Array Value}{B:List (Str×Str)}(k:Kp T H H')(hT:H T=some (.tbl tb))(h:o7 K H B l):o7 K H' B l:=by
 obtain⟨vs,h1,h2⟩:=h
 exact⟨vs,Kp.seq k hT h1,aB.kp k hT h2⟩
theorem yY {d:Int}(h0:0<=d)(h1:d<2):rg (Str.ofString "01").cps.toList d=some (48+d.toNat):=by
 have h:d=0∨d=1:=by omega
 rcases h with rfl|rfl<;>decide +kernel
section
variable {P:Program}{w:World}{K:Jb}{mg:Str->Option Value}{base:Heap}{f T0:Addr}{fd:FuncData}
theorem cx:aO ["_law_state", "_law_book_here", "_law_codes", "_law_way", "_law_more", "_law_pairs", "_law_text"] ["_law_state", "_law_book_here", "_law_codes"] (aA (top hJ)):=⟨rfl,rfl,rfl,by decide +kernel,rfl,by decide +kernel,by decide +kernel⟩
theorem zV (F:dj K "_law_good" "_law_good" (top hJ) f fd)(T:Nm mg)(aD:Fn P w K mg base 1 "_law_take" ["_law_state", "_law_many"] qM)(ir:Fn P w K mg base 6 "ranks_of" ["book"] (wc K))(rP:Fn P w K mg base 5 "_law_lags" ["_law_codes"] (oI K T0 (fD dY))):bW P w K mg base fI 7 f fd ["_law_state", "_law_book_here", "_law_codes"] (oB K T0 (fD dY)):=by
 refine F.ok cx (fun vs H Q E h =>?_) (fun dZ A outer s H vs Q E hr h =>?_)
 ·obtain⟨b,c,l,cp,t,B,tb,rfl,_⟩:=h
  rfl
 unfold oB at h
 refine ae.el h _ ?_
 clear h
 rintro b c l cp t B tb rfl bx t0 t1 hB gB hcp hT tab q
 have eK:=hr.units
 have small:∀{n:Nat},n<=10000->n<sizeLine:=fun h=>Ub h (by decide)
 have Ff:T0≠b/\T0≠c:=by
  obtain⟨ns,x⟩:=bx
  exact⟨(fun e=>by rw[e,x.d] at hT;cases hT),(fun e=>by rw[e,x.l] at hT;cases hT)⟩
 refine⟨_,(ah (ke (fT (aa (aP (aD.mono (by decide)) hr rfl (aa (pv 0) (aa ao ag))) (aa (aP (aD.mono (by decide)) hr rfl (aa (pv 0) (aa ao ag))) ag))) (tupK K 2 rfl (aG (av (i:=3) cx.nd rfl (Or.inl rfl)) (aG (av (i:=4) cx.nd rfl (Or.inr rfl)) cy))))
  (ah (aN (i:=5) cx.nd rfl (Or.inl rfl) (aP (ir.mono (by decide)) hr rfl (aa (pv 1) ag)))
  (ah (bS (aI Fq (pv 5) e7 (aL _)) (au (bV (i:=5) cx.nd rfl (Or.inl rfl) rfl (aM (Nc:=["_law_lag"]) (Fc:=[]) (js:=[])) (iA K (aP (rP.mono (by decide)) hr rfl (aa (pv 2) ag))) (az (i:=0) (n:=1) (by decide)) (fun _ _ _ _ _=>(av (i:=0) (d4 ["_law_lag"]) rfl (Or.inl rfl))) (fun _ _ _ _ _=>aX) (fun _ _ _ _ _=>(fT (aa (pv 0) (aa (aw (dy K) rfl T.n_len (by rfl) (aa (pv 0) ag)) ag)))))) aV)
  (ah (bS (aI (ur K eK) (pv 3) ao (aL _)) (au (bV (i:=5) cx.nd rfl (Or.inl rfl) rfl (aM (Nc:=["_law_lag", "_law_rank"]) (Fc:=["_law_more"]) (js:=[4])) (iA K (pv 5)) (eY (aU (az (i:=0) (n:=2) (by decide)) (aU (az (i:=1) (n:=2) (by decide)) dB aF bp) aF (bz aF bp))) (fun _ _ _ _ _=>(tupK K 2 rfl (aG (av (i:=0) (d4 ["_law_lag", "_law_rank", "_law_more"]) rfl (Or.inl rfl)) (aG (av (i:=1) (d4 ["_law_lag", "_law_rank", "_law_more"]) rfl (Or.inl rfl)) cy)))) (fun _ _ _ _ _=>aX) (fun _ _ _ _ _=>(fT (aa (pv 0) (aa (aH b0 (aH lV ao (pv 1)) (pv 2)) ag)))))) aV)
  (ah (bS (aI (ur K eK) (pv 3) ao (aL _)) (au (aN (i:=5) cx.nd rfl (Or.inl rfl) (C8 K (pv 5)))) aV)
  (ah (aN (i:=6) cx.nd rfl (Or.inl rfl) (vK K PySem.F.plainAttrs_str PySem.F.slot_str_join PySem.F.type_str_join (BL K) bu (aa (br rfl (aM (Nc:=["_law_k"]) (Fc:=["_law_state"]) (js:=[0])) (du rfl T.n_range (aa (aH b0 ao (pv 4)) ag)) (az (i:=0) (n:=1) (by decide)) (fun _ _ _ _ _=>(av (i:=0) (d4 ["_law_k", "_law_state"]) rfl (Or.inl rfl))) (fun _ _ _ _ _=>aX) (fun _ _ _ _ _=>(cX (mF K) bu (aP (aD.mono (by decide)) hr rfl (aa (pv 1) (aa ao ag))) (fun _ _=>rfl)))) ag)))
  (au (aJ (aH b0 (pv 5) (aH lV (eP (aa (fT (aa (pv 6) (aa (aH rJ ao ao) ag))) ag)) (cC vA rfl T.n_int (by rfl) (aa (fG (ur K eK) (pv 3) ao (aL _)) ag)))))))))))),?_⟩
 refine⟨_,rfl,b,c,t,4,rfl,bx,by omega,by omega,by decide,by decide,fun way H1 w0 w1 eQ =>?_⟩
 refine⟨_,rfl,b,c,_,9,rfl,eQ.bx,by omega,by omega,by decide,by decide,fun more H2 m0 m1 bN=>⟨by show 2<=sizeLine;decide,fun tp H3 n3=>⟨tp,_,rfl,fP.of n3.at,rfl,_,_,rfl,_,_,rfl,rfl,?_⟩⟩⟩
 have cN:=(eQ.trans bN).eg n3
 clear eQ bN n3
 have Ig:=cN.old hT Ff.1 Ff.2
 have zy:=iE bx cN tab
 have N3:o7 K H3 B l:=(hB.same cN.sm).same CG
 have FC:H3 cp=some (.lst ((B.map (·.2)).map V.str)):=bJ _ _ (cN.sm _ _ hcp)
 dsimp only
 rw[show(List.set _ _ _:L2.St)=[some (.ref b),some (.ref l),some (.ref cp),some (.int way),some (.int more),none,none] from rfl]
 refine dc (te:=sT _ _ _ _) (fun v H'=>aj H3 H'/\(v = .non∨cq fun(p:Addr) (zs:List Rz)=>v = .ref p/\H3 p=none/\Hz H' p zs)) (fun Qn qn =>?_) ?_
 ·exact⟨_,rfl,l,B,rfl,N3,gB,fun H' s' _=>qn _ _ ⟨s',.inl rfl⟩,fun p zs H' s' hp hz=>qn _ _ ⟨s',.inr ⟨p,zs,rfl,hp,hz⟩⟩⟩
 rintro v H4 ⟨s4,hv4⟩
 refine gn ?_
 have D6:=cN.bx.same s4
 have vR:=s4 _ _ Ig
 have vD:=eC zy s4
 have k4:Kp T0 (bM H b c) (bM H4 b c):=Kp.of (cN.sm.trans (aj.bM s4))
 refine cW (t:=g7 _ _ _) (fun σ H'=>gO fun(p:Addr) (zs:List Rz) (sV:Array Value) =>σ=[some (.ref b),some (.ref l),some (.ref cp),some (.int way),some (.int more),some (.ref p),none]/\Bx H' b c (t+1+1)/\Kp T0 (bM H b c) (bM H' b c)/\H' T0=some (.tbl sV)/\Tab H' (fD dY) qo sV/\p≠b/\p≠c/\Hz H' p zs) (fun Nx nx =>?_) ?_
 ·rcases hv4 with rfl|⟨p,zs,rfl,G3,hz⟩
  ·refine⟨_,rfl,.inl ⟨rfl,_,rfl,bK ?_⟩⟩
   refine sM (fun v H'=>gO fun(p:Addr) (zs:List Rz) (sV:Array Value)=>v = .ref p/\Bx H' b c (t+1+1)/\Kp T0 (bM H b c) (bM H' b c)/\H' T0=some (.tbl sV)/\Tab H' (fD dY) qo sV/\p≠b/\p≠c/\Hz H' p zs) (fun Qn qn =>?_) ?_
   ·refine⟨_,rfl,cp,B,tb,rfl,aK.of (s4 _ _ FC),gB,vR,vD,fun ts p5 sV H5 k5 hp50 jV hT5 tab5 nd tl mem pw=>⟨p5,rfl,⟨_,aK.of jV⟩,?_⟩⟩
    have pq:Bx H5 b c (t+1+1):=Kp.bx k5 vR D6
    have Qi:Kp T0 (bM H b c) (bM H5 b c):=k4.trans (Kp.bM k5)
    have jM:∀{i:Nat} (hi:i<ts.length),(ts.map V.str)[i]? = some (.str ts[i]):=fun hi=>by rw[Jk,Jd hi];rfl
    refine bo (N:=ts.length) (fun i ys H'=>∃zs:List Rz,ys=zs.map (fun z=>V.ref z.1)/\aj H5 H'/\zs.length=i/\(∀z∈zs,i6 H' z)/\∀z∈zs,iB z.2.1/\1<=z.2.1.length/\z.2.1.length<=12/\z.2.2<=1000) ⟨[],rfl,aj.refl _,rfl,(fun z h=>nomatch h),fun z h=>nomatch h⟩ ?_ ?_
    ·intro i ys H6 Ny hi hz_ ny
     refine ae.el hz_ _ ?_
     clear hz_
     rintro zs rfl s6 zl hz hb
     refine⟨⟨_,_,aK.of (s6 _ _ jV),jM hi⟩,small (by rw[Ja];omega),?_⟩
     rintro v H7 ⟨rfl,hv⟩
     have e:=hv _ (aK.of (s6 _ _ jV))
     rw[jM hi] at e;cases e
     have kR:=(mem _).mp (Jo hi)
     generalize ts[i]=x at kR
     have mq:=kR.len gB
     refine gn ?_
     dsimp only[fh]
     rw[if_pos rfl]
     refine⟨_,rfl,_,rfl,_,_,rfl,⟨sizeOk (by omega),rfl⟩,by show 2<=sizeLine;decide,fun a H8 n8=>ny _ _ ⟨zs++[(a,x,x.length)],by rw[Jl];rfl,s6.trans n8.same,by rw[Jf,zl];rfl,fun z hz' =>?_,fun z hz' =>?_⟩⟩
     ·rcases Jh.mp hz' with hz'|hz'
      ·exact n8.same _ _ (hz z hz')
      ·rw[Jg.mp hz'];exact n8.at
     ·rcases Jh.mp hz' with hz'|hz'
      ·exact hb z hz'
      ·rw[Jg.mp hz'];exact⟨m6 gB kR,mq.2,mq.1,by show x.length<=1000;omega⟩
    ·intro ys H6
     refine ae.go ?_
     rintro zs rfl s6 zl hz hb
     refine⟨⟨_,aK.of (s6 _ _ jV),by rw[Ja];exact Je _⟩,fun p hp =>?_⟩
     have yT:=pq.same s6
     obtain⟨pb,pc⟩:=yT.aY hp
     have s7:=s6.trans (bj hp (.lst (zs.map fun z=>V.ref z.1)))
     exact qn _ _ ⟨p,zs,sV,rfl,pq.same s7,Qi.trans (Kp.of (aj.bM s7)),s7 _ _ hT5,eC tab5 s7,pb,pc,ax,fun z hz'=>bj hp _ _ _ (hz z hz'),hb,by omega⟩
   ·intro v H5
    refine ae.go ?_
    rintro p zs sV rfl h1 h2 h3 h4 h5 h6 h7
    exact gn (nx _ _ ⟨p,zs,sV,rfl,h1,h2,h3,h4,h5,h6,h7⟩)
  ·obtain⟨pb,pc⟩:=cN.bx.aY G3
   exact⟨_,rfl,.inl ⟨rfl,_,rfl,bI (nx _ _ ⟨p,zs,tb,rfl,D6,k4,vR,vD,pb,pc,hz⟩)⟩⟩
 clear hv4 k4 vR vD D6 s4 FC N3 zy Ig
 intro σ H5
 refine ae.go ?_
 rintro p zs sV rfl pq k5 hT5 tab5 pb pc hz
 have AI:xH (bM H5 b c) p zs 200:=⟨by rw[bZ pb pc];exact hz.l,fun z h=>sv pq (hz.t z h),fun z h=>by
  obtain⟨h1,h2,h3,h4⟩:=hz.b z h
  exact⟨h1,h2,by omega,by omega⟩,hz.le⟩
 have Ou:∀z∈zs,z.2.2<=1000:=fun z h=>(hz.b z h).2.2.2
 clear hz
 refine cW (t:=g7 _ _ _) (fun σ H'=>cq fun(p:Addr) (zs:List Rz) =>σ=[some (.ref b),some (.ref l),some (.ref cp),some (.int way),some (.int more),some (.ref p),none]/\aj H5 H'/\xH (bM H' b c) p zs 200) (fun Nx nx =>?_) ?_
 ·refine⟨_,rfl,.inl ⟨rfl,_,rfl,fe (fun c =>?_) (fun c=>nx _ _ ⟨p,zs,rfl,aj.refl _,AI⟩)⟩⟩
  clear c
  refine sM (fun v H'=>cq fun(p:Addr) (zs:List Rz)=>v = .ref p/\aj H5 H'/\xH (bM H' b c) p zs 200) (fun Qn qn =>?_) ?_
  ·have jV:H5 p=some (.lst (zs.map fun z=>V.ref z.1)):=bJ _ _ AI.l
   have NL:∀{i:Nat} (hi:i<zs.length),(zs.map fun z=>V.ref z.1)[i]? = some (.ref zs[i].1):=fun hi=>by rw[Jk,Jd hi];rfl
   have Og:=AI.le
   refine⟨_,rfl,p,rfl,⟨_,aK.of jV⟩,?_⟩
   refine bo (N:=zs.length) (fun i ys H'=>∃us:List Rz,ys=us.map (fun z=>V.ref z.1)/\aj H5 H'/\us.length=i/\(∀z∈us,i6 H' z)/\∀z∈us,iB z.2.1/\1<=z.2.1.length/\z.2.1.length<=18/\z.2.2<=1000000) ⟨[],rfl,aj.refl _,rfl,(fun z h=>nomatch h),fun z h=>nomatch h⟩ ?_ ?_
   ·intro i ys H6 Ny hi hz_ ny
    refine ae.el hz_ _ ?_
    clear hz_
    rintro us rfl s6 ul Dc hb
    refine⟨⟨_,_,aK.of (s6 _ _ jV),NL hi⟩,small (by rw[Ja];omega),?_⟩
    rintro v H7 ⟨rfl,hv⟩
    have e:=hv _ (aK.of (s6 _ _ jV))
    rw[NL hi] at e;cases e
    have Es:=s6 _ _ (bJ _ _ (AI.t _ (Jo hi)))
    obtain⟨z1,z2,z3,z4⟩:=AI.b _ (Jo hi)
    have zr:=Ou _ (Jo hi)
    generalize zs[i]=z at Es z1 z2 z3 z4 zr
    refine⟨z.1,_,rfl,fP.of Es,rfl,_,_,rfl,_,_,rfl,rfl,?_⟩
    dsimp only[fh]
    rw[if_pos rfl]
    refine⟨_,rfl,_,rfl,.inl ⟨_,_,rfl,rfl,.inl ⟨by decide,by decide⟩,_,rfl,.inl ⟨_,_,rfl,rfl,by show 2<=sizeLine;decide,fun a H8 n8=>ny _ _ ⟨us++[(a,z.2.1,2*z.2.2+more.toNat)],by rw[Jl];rfl,s6.trans n8.same,by rw[Jf,ul];rfl,fun y uD =>?_,fun y uD =>?_⟩⟩⟩⟩
    ·rcases Jh.mp uD with uD|uD
     ·exact n8.same _ _ (Dc y uD)
     ·rw[Jg.mp uD]
      have:=n8.at
      unfold i6
      rw[this,show((2*(z.2.2:Nat):Int)+more)=((2*z.2.2+more.toNat:Nat):Int) by omega]
    ·rcases Jh.mp uD with uD|uD
     ·exact hb y uD
     ·rw[Jg.mp uD];exact⟨z1,z2,z3,by show 2*z.2.2+more.toNat<=1000000;omega⟩
   ·intro ys H6
    refine ae.go ?_
    rintro us rfl s6 ul Dc hb
    refine⟨⟨_,aK.of (s6 _ _ jV),by rw[Ja];exact Je _⟩,fun p' hp' =>?_⟩
    have yT:=pq.same s6
    obtain⟨pb',pc'⟩:=yT.aY hp'
    have s7:=s6.trans (bj hp' (.lst (us.map fun z=>V.ref z.1)))
    exact qn _ _ ⟨p',us,rfl,s7,by rw[bZ pb' pc'];exact ax,fun z hz'=>sv (pq.same s7) (bj hp' _ _ _ (Dc z hz')),hb,by omega⟩
  ·intro v H6
   refine ae.go ?_
   rintro p zs rfl s6 oo
   exact gn (nx _ _ ⟨p,zs,rfl,s6,oo⟩)
 clear AI Ou
 intro σ H6
 refine ae.go ?_
 rintro p zs rfl s6 oo
 have yT:=pq.same s6
 refine cW (t:=g7 _ _ _) (fun σ H'=>cq fun(p:Addr) (zs:List Rz) =>σ=[some (.ref b),some (.ref l),some (.ref cp),some (.int way),some (.int more),some (.ref p),none]/\aj H6 H'/\xH (bM H' b c) p zs 200) (fun Nx nx =>?_) ?_
 ·refine⟨_,rfl,.inl ⟨rfl,_,rfl,fe (fun c =>?_) (fun c=>nx _ _ ⟨p,zs,rfl,aj.refl _,oo⟩)⟩⟩
  clear c
  refine⟨_,rfl,p,_,rfl,aK.of (bJ _ _ oo.l),fun p' H7 n7=>gn (nx _ _ ⟨p',zs.reverse,rfl,n7.same,?_⟩)⟩
  obtain⟨pb',pc'⟩:=yT.aY n7.nn
  refine⟨by rw[bZ pb' pc',n7.at,List.map_reverse],fun z h=>(oo.same (aj.bM n7.same)).t z (Yp.mp h),fun z h=>oo.b z (Yp.mp h),by rw[List.length_reverse];exact oo.le⟩
 clear oo
 intro σ H7
 refine ae.go ?_
 rintro p zs rfl s7 rz7
 have zD:=s6.trans s7
 have K8:=pq.same zD
 have jH:=Step.same pq zD
 have Rb:=zD _ _ hT5
 have QY:=eC tab5 zD
 refine dc (te:=KP _ _ _ _ _) (fun v H'=>cq fun(x:Str) (t':Int)=>v = .str x/\iB x/\9<=x.length/\x.length<=17/\Step b c H7 H' (t+1+1) t' 17) (fun Qn qn =>?_) ?_
 ·refine⟨rfl,_,rfl,.inl ⟨_,_,rfl,rfl,_,rfl,by omega,by omega,?_⟩⟩
  refine bo (N:=(9+more).toNat) (fun k ys H'=>cq fun(xs:List Str) (t':Int)=>ys=xs.map V.str/\xs.length=k/\(∀x∈xs,∃ch:Nat,x=⟨#[ch]⟩/\(ch=48∨ch=49))/\Step b c H7 H' (t+1+1) t' k) ⟨[],_,rfl,rfl,(fun _ h=>nomatch h),Step.refl K8⟩ ?_ ?_
  ·intro k ys H8 Nx hk hz_ nx
   refine ae.el hz_ _ ?_
   clear hz_
   rintro xs t8 rfl mq hx gR
   have IB:=gR.ub
   have KU:=gR.le
   refine⟨hk,by rw[Ja,mq];exact small (by omega),?_⟩
   rintro y H9 ⟨rfl,rfl⟩
   refine gn ?_
   dsimp only[fh]
   rw[if_pos rfl]
   refine⟨_,rfl,b,c,t8,2,rfl,gR.bx,by omega,by omega,by decide,by decide,fun d H10 d0 d1 st10 =>?_⟩
   refine .inr (.inr ⟨_,d,_,rfl,rfl,by decide +kernel,yY d0 d1,nx _ _ ⟨xs++[⟨#[48+d.toNat]⟩],_,by rw[Jl];rfl,by rw[Jf,mq];rfl,fun x rK =>?_,(gR.trans st10).more (by omega)⟩⟩)
   rcases Jh.mp rK with h|h
   ·exact hx x h
   ·exact⟨_,Jg.mp h,by omega⟩
  ·intro ys H8
   refine ae.go ?_
   rintro xs t8 rfl mq hx gR
   obtain⟨f1,f2,f3⟩:=mG hx
   refine⟨Je _,fun p' hp'=>⟨_,p',xs,rfl,rfl,aK.of ax,?_,qn _ _ ⟨_,t8,rfl,fun ch hc =>?_,?_,?_,(gR.new hp' _).more (by omega)⟩⟩⟩
   ·rw[f3]
    show xs.length+xs.length*0<=16777216
    omega
   ·rw[d8] at hc
    exact f2 ch hc
   ·rw[str_len,d8,f1];omega
   ·rw[str_len,d8,f1];omega
 intro v H8
 refine ae.go ?_
 rintro x t8 rfl xb x9 x17 gR
 refine gn ?_
 have IB:=gR.ub
 have KU:=gR.le
 have D3:=gR.bx
 have MP:=rz7.same gR.sm
 have yI:H8 p=some (.lst (zs.map fun z=>V.ref z.1)):=bJ _ _ MP.l
 have Og:=MP.le
 refine⟨_,rfl,_,rfl,_,_,rfl,rfl,⟨by decide,by decide,by decide⟩,by show 2<=sizeLine;decide,fun a H9 n9=>⟨by show 1<=sizeLine;decide,fun o HA nA =>?_⟩⟩
 refine⟨_,rfl,.inl ⟨rfl,.inr ⟨_,rfl,.inr ⟨o,_,_,rfl,rfl,nA.at,?_,?_,?_,fun o2 HB nB =>?_⟩⟩⟩⟩
 ·split<;>decide
 ·split<;>decide
 ·split
  ·show 1*1<=sizeLine;decide
  ·show 1*0<=sizeLine;decide
 have MG:=n9.same.trans (nA.same.trans nB.same)
 have e2:(Jp (if (decide (V.int way=V.int 3))=true then (1:Int) else 0).toNat [V.ref a]).flatten=if (decide (V.int way=V.int 3))=true then [V.ref a] else []:=by
  split
  ·rfl
  ·rfl
 rw[e2] at nB
 refine .inr (.inr ⟨p,o2,_,_,rfl,rfl,MG _ _ yI,nB.at,?_,fun pr HC nC =>?_⟩)
 ·rw[Ja]
  split
  ·exact sizeOk (by show zs.length+1<=_;omega)
  ·exact sizeOk (by show zs.length+0<=_;omega)
 have Nn:=MG.trans nC.same
 have stC:=(Step.same pq zD).trans (gR.trans (Step.same D3 Nn))
 have Mm:=D3.same MG
 obtain⟨rb,rc⟩:=Mm.aY nC.nn
 have QD:=j7 pq stC hT5
 have Kv:=iE pq stC tab5
 have NX:=MP.same (aj.bM Nn)
 have P0:i6 (bM HC b c) (a,x,1000000):=sv stC.bx (by
  unfold i6
  have:=nC.same _ _ (nB.same _ _ (nA.same _ _ n9.at))
  exact this)
 refine q pr (zs++if (decide (V.int way=V.int 3))=true then [(a,x,1000000)] else []) HC t8 sV (by omega) (by omega) stC.bx (k5.trans (Kp.of stC.sm)) QD Kv ⟨?_,fun z hz =>?_,fun z hz =>?_,?_⟩
 ·rw[bZ rb rc,nC.at,Jl]
  split<;>rfl
 ·rcases Jh.mp hz with hz|hz
  ·exact NX.t z hz
  ·split at hz
   ·rw[Jg.mp hz];exact P0
   ·cases hz
 ·rcases Jh.mp hz with hz|hz
  ·exact NX.b z hz
  ·split at hz
   ·rw[Jg.mp hz];exact⟨xb,by show 1<=x.length;omega,by show x.length<=18;omega,Je _⟩
   ·cases hz
 ·rw[Jf]
  split
  ·show zs.length+1<=201;omega
  ·show zs.length+0<=201;omega
end
def tP (K:Jb):Sp:=fun vs H Q _=>BM fun(b c p:Addr) (t:Int) (zs:List Rz)=>vs=[.ref b,.ref p]/\Bx H b c t/\0<=t/\t<900000/\xH (bM H b c) p zs 201 /\
 ∀(d:PyData) (v:V) (H':Hp) (t':Int),Th K (bM H' b c) d v->Step b c H H' t t' 20->Q v H'
noncomputable abbrev tS (x:String):PyData := .str (Str.ofString x)
noncomputable def Az:List PyData:=[.tuple [tS "",.int 1],.tuple [tS "01",.bool true],.tuple [tS "0a",.int 1],.tuple [tS "0",.int (-1)],.tuple [tS "1",tS "1"],.tuple [tS "0",.none],.list [tS "0",.int 1],.tuple [tS "0",.int 1,.int 1]]
noncomputable def yZ:List PyData:=[tS "0",.none,.tuple [tS "0"],.tuple [.int 0,tS "0"],.tuple [.list [tS "0"],.int 1],.tuple [tS "0",.list [.int 1]],.tuple [.tuple [tS "0"],.int 1],.tuple [tS "0",.tuple [.int 1]]]
noncomputable def LZ (d:PyData):Bool:=Pz d&&decide (d.weight<=60)&&decide (d.depth<=3)
theorem FP {d:PyData}(h:LZ d=true):Gd 60 3 d:=by
 unfold LZ at h
 rw[Uv,Uv,decide_eq_true_iff,decide_eq_true_iff] at h
 exact⟨h.1.1,h.1.2,h.2⟩
theorem Dk:∀d∈Az++yZ,Gd 60 3 d:=by
 have h:(Az++yZ).all LZ=true:=by decide +kernel
 intro d hd
 exact FP (Yh.mp h d hd)
theorem tM {x:Str}{n:Int}(hx:vL x=true)(hl:x.length<=20)(hn:n.natAbs<2^31):Gd 60 3 (.tuple [.str x,.int n]):=
 ((Gs.cons (w:=20) (Gd.str hx hl) (Gs.one (KI (w:=32) (dp:=2) hn (Je _)))).tuple).mono (by omega) (by decide)
theorem nV {x:Str}(h:iB x):vL x=true:=iP.mpr fun c hc=>by rcases h c hc with e|e<;>omega
theorem oV {K:Jb}{G:Hp}{zs:List Rz}(h:∀z∈zs,i6 G z):aB K G (zs.map fun z =>.tuple [.str z.2.1,.int (z.2.2:Nat)]) (zs.map fun z=>V.ref z.1):=by
 induction zs with
 | nil=>exact mT
 | cons z zs ih=>exact dR (mf (h z Jq) (dR (by unfold Den;rfl) (dR (by unfold Den;rfl) mT))) (ih fun y hy=>h y (Jn _ hy))
theorem xv {G:Hp}{p:Addr}{zs:List Rz}{m:Nat}(h:xH G p zs m):∀d∈zs.map fun z=>PyData.tuple [.str z.2.1,.int (z.2.2:Nat)],Gd 60 3 d:=fun d hd=>by
 obtain⟨z,hz,rfl⟩:=Ug.mp hd
 obtain⟨h1,h2,h3,h4⟩:=h.b z hz
 exact tM (nV h1) (by omega) (by show z.2.2<2^31;omega)
theorem xG {K:Jb}{H:Hp}{b c p:Addr}{zs:List Rz}{m:Nat}(h:xH (bM H b c) p zs m):Pl K b c m H (.ref p):=by
 obtain⟨e,pb,pc⟩:=eE h.l
 exact⟨p,_,_,rfl,e,pb,pc,oV h.t,xv h,by rw[Ja];exact h.le⟩
theorem w5 {K:Jb}{H:Hp}{b c:Addr}{n:Nat}{v:V}(h:Pl K b c n H v)(hn:n<=410):∃d,Th K (bM H b c) d v:=by
 obtain⟨ds,h1,h2,h3⟩:=h.out hn
 exact⟨_,mD h1 (h2.mono (by decide) (by decide)) fun es e=>by injection e with e;rw[<-e];omega⟩
def rh (K:Jb)(G:Hp)(vs:List V):Prop:=∀v∈vs,∃d,Th K G d v
theorem rh.nil {K:Jb}{G:Hp}:rh K G []:=fun _ h=>nomatch h
theorem rh.same {K:Jb}{G G':Hp}{vs:List V}(h:rh K G vs)(s:aj G G'):rh K G' vs:=fun v hv=>by
 obtain⟨d,h⟩:=h v hv
 exact⟨d,h.same s⟩
theorem rh.app {K:Jb}{G:Hp}{vs:List V}{v:V}(h:rh K G vs)(g:∃d,Th K G d v):rh K G (vs++[v]):=fun u hu=>by
 rcases Jh.mp hu with hu|hu
 ·exact h u hu
 ·rw[Jg.mp hu];exact g
theorem gM {H H':Hp}{b c:Addr}{t:Int}(bx:Bx H b c t)(s:aj H H'):aj (newOf H H') (bM H' b c):=fun a o e=>by
 obtain⟨e1,e2⟩:=eF e
 obtain⟨h1,h2⟩:=bx.aY e1
 rw[bZ h1 h2];exact e2
theorem wR {x:Str}(j:Nat):sg (Txt.slice x none (some (j:Int)))=(sg x).take j:=by
 have e:Txt.slice x none (some (j:Int))=Txt.slice x (some ((0:Nat):Int)) (some (j:Int)):=by
  unfold Txt.slice
  have:PySem.Builtin.Str.strSliceIndices none (some (j:Int)) 1 x.length=PySem.Builtin.Str.strSliceIndices (some ((0:Nat):Int)) (some (j:Int)) 1 x.length:=by
   unfold PySem.Builtin.Str.strSliceIndices
   dsimp only
   congr 1
   all_goals simp
  rw[this]
 rw[e,B6 (Um _) (Um _)]
 rfl
theorem Ht {c:TT}{A B:TS}{D:Ends}{σ:L2.St}{H:Hp}{C:Prop}(hc:∀Qn:Bool->Hp->Prop,Qn true H->(C->Qn false H)->c σ H Qn)(hA:A D σ H)(hB:C->B D σ H):g7 c A B D σ H:=hc _ (bK hA) fun h=>bI (hB h)
theorem ng {c:TT}{A B:TS}{D:Ends}{σ:L2.St}{H:Hp}(hc:∀Qn:Bool->Hp->Prop,(∀b,Qn b H)->c σ H Qn)(hA:A D σ H)(hB:B D σ H):g7 c A B D σ H:=hc _ fun b=>by
 cases b
 ·exact bI hB
 ·exact bK hA
theorem BX:∀{es:List PyData},(∀d∈es,Gd 60 3 d)->Gs (61*es.length) 3 es
 | [],_=>Gs.nil
 | e::es,h=>(Gs.cons (h e Jq) (BX fun d hd=>h d (Jn _ hd))).mono (by rw[J0];omega) (Je _)
section
variable {P:Program}{w:World}{K:Jb}{mg:Str->Option Value}{base:Heap}{f:Addr}{fd:FuncData}
theorem bq:aO ["_law_state", "_law_pairs", "_law_way", "_law_at", "_law_odd", "_law_lag", "_law_rank", "_law_spot", "_law_sign", "_law_ranks"] ["_law_state", "_law_pairs"] (aA (top fx)):=⟨rfl,rfl,rfl,by decide +kernel,rfl,by decide +kernel,by decide +kernel⟩
theorem CP (F:dj K "_law_spoilt" "_law_spoilt" (top fx) f fd)(T:Nm mg)(aD:Fn P w K mg base 1 "_law_take" ["_law_state", "_law_many"] qM):bW P w K mg base fI 2 f fd ["_law_state", "_law_pairs"] (tP K):=by
 refine F.ok bq (fun vs H Q E h =>?_) (fun dZ A outer s H vs Q E hr h =>?_)
 ·obtain⟨b,c,p,t,zs,rfl,_⟩:=h
  rfl
 unfold tP at h
 refine ae.el h _ ?_
 clear h
 rintro b c p t zs rfl bx t0 t1 rz q
 have eK:=hr.units
 have small:∀{n:Nat},n<=10000->n<sizeLine:=fun h=>Ub h (by decide)
 have Og:=rz.le
 refine⟨_,(ah (xi (i:=2) (j:=3) rfl bq.nd rfl rfl (by decide) rfl rfl (aa (aP (aD.mono (by decide)) hr rfl (aa (pv 0) (aa ao ag))) (aa (aP (aD.mono (by decide)) hr rfl (aa (pv 0) (aa (aH b0 (aw (dy K) rfl T.n_len (by rfl) (aa (pv 1) ag)) ao) ag))) ag)) rfl)
  (ah (aN (i:=4) bq.nd rfl (Or.inl rfl) (kI (K:=K) (ar (cA (K:=K) (ar lit_str (ar lit_int bf))) (ar (cA (K:=K) (ar lit_str (ar Cb bf))) (ar (cA (K:=K) (ar lit_str (ar lit_int bf))) (ar (cA (K:=K) (ar lit_str (ar lit_neg bf))) (ar (cA (K:=K) (ar lit_str (ar lit_str bf))) (ar (cA (K:=K) (ar lit_str (ar uh bf))) (ar (nJ (K:=K) (ar lit_str (ar lit_int bf))) (ar (cA (K:=K) (ar lit_str (ar lit_int (ar lit_int bf)))) bf))))))))))
  (ah (aN (i:=4) bq.nd rfl (Or.inl rfl) (aH b0 (pv 4) (kI (K:=K) (ar lit_str (ar uh (ar (cA (K:=K) (ar lit_str bf)) (ar (cA (K:=K) (ar lit_int (ar lit_str bf))) (ar (cA (K:=K) (ar (nJ (K:=K) (ar lit_str bf)) (ar lit_int bf))) (ar (cA (K:=K) (ar lit_str (ar (nJ (K:=K) (ar lit_int bf)) bf))) (ar (cA (K:=K) (ar (cA (K:=K) (ar lit_str bf)) (ar lit_int bf))) (ar (cA (K:=K) (ar lit_str (ar (cA (K:=K) (ar lit_int bf)) bf))) bf)))))))))))
  (ah (aN (i:=4) bq.nd rfl (Or.inl rfl) (cX (mF K) (pv 4) (aP (aD.mono (by decide)) hr rfl (aa (pv 0) (aa ao ag))) (fun _ _=>rfl)))
  (ah (bS (PW.pt (fJ (aI (ur K eK) (pv 2) ao (aL _)) (gh (aI (ur K eK) (pv 3) (aw (dy K) rfl T.n_len (by rfl) (aa (pv 1) ag)) (aL _))))) (au (aJ (cX (mF K) (eP (aa (aH b0 (pv 1) (eP (aa (pv 4) ag))) (aa (cC (DF K) rfl T.n_tuple (by rfl) (aa (pv 1) ag)) (aa e7 (aa (fT (aa bu (aa (pv 1) ag))) (aa (kI (K:=K) bf) (aa (cC (DE K hr.gd eK) rfl T.n_str (by rfl) (aa (pv 1) ag)) ag))))))) (aP (aD.mono (by decide)) hr rfl (aa (pv 0) (aa ao ag))) (fun _ _=>rfl)))) aV)
  (ah (ke (cX (mF K) (pv 1) (pv 3) (fun _ _=>rfl)) (tupK K 2 rfl (aG (av (i:=5) bq.nd rfl (Or.inl rfl)) (aG (av (i:=6) bq.nd rfl (Or.inl rfl)) cy))))
  (ah (aN (i:=7) bq.nd rfl (Or.inl rfl) (aP (aD.mono (by decide)) hr rfl (aa (pv 0) (aa (aH b0 (aw (dy K) rfl T.n_len (by rfl) (aa (pv 5) ag)) ao) ag))))
  (ah (aN (i:=8) bq.nd rfl (Or.inl rfl) (cX (mF K) bu (aP (aD.mono (by decide)) hr rfl (aa (pv 0) (aa ao ag))) (fun _ _=>rfl)))
  (ah (aN (i:=9) bq.nd rfl (Or.inl rfl) (cX (mF K) (eP (aa (aH b0 (pv 6) ao) (aa (aw (vh rfl) rfl T.n_max (by rfl) (aa ao (aa (aH v8 (pv 6) ao) ag))) (aa ao (aa (aH b0 (pv 6) (aH rJ ao ao)) (aa (aH v8 (pv 6) ao) ag)))))) (aP (aD.mono (by decide)) hr rfl (aa (pv 0) (aa ao ag))) (fun _ _=>rfl)))
  (ah (bS (aI ko (pv 2) ao (aL _)) (au (aJ (aH b0 (aH b0 (bg (oU K) (pv 1) bB (bw (pv 3))) (eP (aa (fT (aa (pv 5) (aa (pv 9) ag))) ag))) (bg (oU K) (pv 1) (bw (aH b0 (pv 3) ao)) bB)))) aV)
  (ah (bS (aI ko (pv 2) ao (aL _)) (au (aJ (aH b0 (bg (oU K) (pv 1) bB (bw (pv 3))) (bg (oU K) (pv 1) (bw (aH b0 (pv 3) ao)) bB)))) aV)
  (ah (bS (aI (ur K eK) (pv 2) ao (aL _)) (au (aJ (aH b0 (aH b0 (bg (oU K) (pv 1) bB (bw (pv 3))) (eP (aa (cX (mF K) (pv 1) (pv 3) (fun _ _=>rfl)) ag))) (bg (oU K) (pv 1) (bw (pv 3)) bB)))) aV)
  (ah (bS (aI ko (pv 2) ao (aL _)) (au (aJ (aH b0 (aH b0 (bg (oU K) (pv 1) bB (bw (pv 3))) (eP (aa (fT (aa (aH b0 (aH b0 (bg (oU K) (pv 5) bB (bw (pv 7))) (pv 8)) (bg (oU K) (pv 5) (bw (aH b0 (pv 7) (aH ie (pv 2) ao))) bB)) (aa (pv 6) ag))) ag))) (bg (oU K) (pv 1) (bw (aH b0 (pv 3) ao)) bB)))) aV)
  (au (aJ (aH b0 (aH b0 (bg (oU K) (pv 1) bB (bw (pv 3))) (eP (aa (pv 4) ag))) (bg (oU K) (pv 1) (bw (aH b0 (pv 3) ao)) bB))))))))))))))))),?_⟩
 refine bO (t:=GX _ _ _) fun D1 g1 y1 =>?_
 refine⟨_,rfl,b,c,t,12,rfl,bx,by omega,by omega,by decide,by decide,fun way H1 w0 w1 eQ =>?_⟩
 have hW:H1 p=some (.lst (zs.map fun z=>V.ref z.1)):=bJ _ _ (eQ.sm _ _ rz.l)
 refine⟨_,rfl,_,rfl,_,_,rfl,.inl ⟨_,aK.of hW,rfl⟩,.inl ⟨_,_,rfl,rfl,b,c,_,_,rfl,eQ.bx,by omega,by omega,?_,?_,fun ai H2 a0 a1 bN=>⟨_,_,rfl,g1 _ _ ?_⟩⟩⟩
 ·show(0:Int)<((zs.map fun z=>V.ref z.1).length:Nat)+1
  omega
 ·rw[Ja]
  show((zs.length:Nat):Int)+1<1073741824
  omega
 rw[Ja] at a1
 clear g1 y1 hW
 have bN:=eQ.trans bN
 clear eQ
 rw[show(List.set _ _ _:L2.St)=[some (.ref b),some (.ref p),some (.int way),some (.int ai),none,none,none,none,none,none] from rfl]
 refine bO (t:=gC _ _) fun D1 g1 y1 =>?_
 refine fun p1 vs1 H3 s3 hW uR=>gn (g1 _ _ ?_)
 clear g1 y1
 refine bO (t:=gC _ _) fun D1 g1 y1 =>?_
 refine⟨_,rfl,fun p2 vs2 H4 s4 qB uL =>?_⟩
 obtain⟨_,hW⟩:=eF hW
 obtain⟨_,qB⟩:=eF qB
 have vQ:=bN.bx
 have D0:=vQ.same s3
 have l1:=uR.len
 have l2:=uL.len
 have uR:=(uR.same (gM vQ s3)).same (aj.bM (b:=b) (c:=c) s4)
 have uL:=uL.same (gM D0 s4)
 refine .inr (.inr ⟨p1,p2,_,_,rfl,rfl,s4 _ _ hW,qB,by rw[l1,l2];decide,fun p3 H5 n5=>gn (g1 _ _ ?_)⟩)
 clear g1 y1
 have K1:=s3.trans (s4.trans n5.same)
 have cS:=bN.trans (Step.same vQ K1)
 obtain⟨b3,c3⟩:=((D0.same s4)).aY n5.nn
 have CW:aB K (bM H5 b c) (Az++yZ) (vs1++vs2):=by
  have h1:=uR.same (aj.bM (b:=b) (c:=c) n5.same)
  have h2:=uL.same (aj.bM (b:=b) (c:=c) n5.same)
  clear cS l1 l2 n5 uR uL K1
  have key:∀{G:Hp} {ds es:List PyData} {us ws:List V},aB K G ds us->aB K G es ws->aB K G (ds++es) (us++ws):=fun{G ds es us ws} h g=>by
   induction ds generalizing us with
   | nil=>unfold aB at h;subst h;exact g
   | cons d ds ih=>
    unfold aB at h
    obtain⟨v,r,rfl,k1,k2⟩:=h
    exact dR k1 (ih k2)
  exact key h1 h2
 have Qe:=cS.ub
 have PZ:=cS.le
 refine bO (t:=gC _ _) fun D1 g1 y1 =>?_
 refine⟨_,rfl,_,rfl,b,c,_,16,rfl,cS.bx,by omega,by omega,by decide,by decide,fun r H6 r0 r1 jo =>?_⟩
 have hv:(vs1++vs2).length=16:=by rw[Jf,l1,l2];rfl
 refine .inl ⟨p3,_,r,_,rfl,rfl,aK.of (jo.old n5.at b3 c3),e9 r0 (Jd (show r.toNat<_ by omega)),gn (g1 _ _ ?_)⟩
 clear g1 y1
 obtain⟨d0,oZ,gd0⟩:∃d0,Den K (bM H6 b c) d0 ((vs1++vs2)[r.toNat]'(by omega))/\Gd 60 3 d0:=by
  have hl:r.toNat<(Az++yZ).length:=by rw[<-CW.len];omega
  obtain⟨v,e1,e2⟩:=CW.get (Jd hl)
  rw[Jd (by omega)] at e1
  rw[Option.some.inj e1]
  exact⟨_,e2.same jo.sm,Dk _ (Jo hl)⟩
 generalize (vs1++vs2)[r.toNat]'(by omega)=v0 at oZ
 obtain⟨t6,jo⟩:∃t6,Step b c H H6 t t6 5:=⟨_,(cS.trans jo).more (by omega)⟩
 clear CW uR uL hv l1 l2 n5 cS D0 hW qB s3 s4 K1
 have Rn:=jo.ub
 have Rc:=jo.le
 have yT:=jo.bx
 have oo:=rz.same jo.sm
 have vY:H6 p=some (.lst (zs.map fun z=>V.ref z.1)):=bJ _ _ oo.l
 have PF:Pl K b c 201 H6 (.ref p):=xG oo
 rw[show(List.set _ _ _:L2.St)=[some (.ref b),some (.ref p),some (.int way),some (.int ai),some v0,none,none,none,none,none] from rfl]
 have fin:∀{v:V} {H' H7:Hp} {t7:Int} {n:Nat},Step b c H H7 t t7 15->aj H7 H'->Pl K b c n H' v->n<=410->Q v H':=fun{v H' H7 t7 n} jH s7 h hn=>by
  obtain⟨d,th⟩:=w5 h hn
  exact q d v H' t7 th ((jH.trans (Step.same jH.bx s7)).more (by omega))
 refine bO (t:=g7 _ _ _) fun D1 g1 y1 =>?_
 refine Ht (C:=ai<zs.length) (fun Qn h1 h2 =>?_) ?_ fun Bu =>?_
 ·refine⟨_,rfl,.inl ⟨rfl,_,rfl,fe (fun c=>h1) (fun c =>?_)⟩⟩
  refine⟨_,rfl,_,rfl,_,_,rfl,.inl ⟨_,aK.of vY,rfl⟩,.inl ⟨rfl,_,rfl,?_⟩⟩
  rw[Ja]
  by_cases c2:ai=zs.length
  ·rw[decide_eq_true (by rw[c2])];exact h1
  ·rw[decide_eq_false (fun z=>c2 (by injection z))]
   exact h2 (by omega)
 ·-- the whole otherwise
  have Q2:∀{H':Hp},aj H6 H'->Bx H' b c _:=fun s'=>yT.same s'
  refine⟨_,rfl,⟨_,rfl,by show 1<=sizeLine;decide,fun o1 H7 n7 =>?_⟩⟩
  obtain⟨s7,K8,pl7⟩:=sQ yT oZ gd0 n7
  refine wI K8 (PF.same s7) pl7 (by decide) fun v1 H8 s8 D3 pl8 =>?_
  have Nb:=s7.trans s8
  have T1:rh K (bM H8 b c) [v1]:=rh.nil.app (w5 pl8 (by decide))
  refine⟨_,rfl,p,_,rfl,.inl ⟨aK.of (Nb _ _ vY),fun o2 H9 n9 =>?_⟩⟩
  have N2:=Nb.trans n9.same
  obtain⟨b9,c9⟩:=D3.aY n9.nn
  have MH:=oo.same (aj.bM N2)
  have T2:=(T1.same (aj.bM (b:=b) (c:=c) n9.same)).app (v := .ref o2) ⟨_,mD (mf (by rw[bZ b9 c9];exact n9.at) (oV (K:=K) MH.t)) (((BX (xv MH)).tuple).mono (by rw[Ja];omega) (by decide)) (fun _ z=>nomatch z)⟩
  have Rp:aB K (bM H9 b c) _ _:=oV (K:=K) MH.t
  refine⟨_,rfl,by show 2<=sizeLine;decide,fun o4 HA nA =>?_⟩
  have BF:=D3.same n9.same
  obtain⟨b4,c4⟩:=BF.aY nA.nn
  have Od:=N2.trans nA.same
  have Ka:=oo.same (aj.bM Od)
  obtain⟨eA,pb,pc⟩:=eE Ka.l
  have gl:Gd 13000 4 (.list (zs.map fun z=>PyData.tuple [.str z.2.1,.int (z.2.2:Nat)])):=((BX (xv oo)).list).mono (by rw[Ja];omega) (Je _)
  have Gn:Den K (bM HA b c) (.list (zs.map fun z=>PyData.tuple [.str z.2.1,.int (z.2.2:Nat)])) (.ref p):=BH Ka.l (oV Ka.t)
  have T3:=((T2.app (v := .non) ⟨.none,mD (by unfold Den;rfl) (Gd.small (.inl rfl) (by decide)) (fun _ z=>nomatch z)⟩).same (aj.bM (b:=b) (c:=c) nA.same)).app (v := .ref o4) ⟨_,mD (mf (by rw[bZ b4 c4];exact nA.at) (dR (d := .str (Str.ofString "ranks")) (by unfold Den;rfl) (dR Gn mT))) (((Gs.cons (w:=5) (Gd.str (by decide +kernel) (by decide +kernel)) (Gs.one gl)).tuple).mono (by omega) (by decide)) (fun _ z=>nomatch z)⟩
  refine fun o5 vs5 HB sB LX Cr =>?_
  have MO:=BF.same nA.same
  have Cr:=Cr.same (gM MO sB)
  have JX:=gM MO sB _ _ LX
  have Pw:=Od.trans sB
  have T4:=(T3.same (aj.bM (b:=b) (c:=c) sB)).app (v := .ref o5) ⟨.list [],mD (BH JX Cr) ((Gs.nil (dp:=0)).list.mono (by decide) (by decide)) (fun ds z=>by injection z with z;rw[<-z];exact Um _)⟩
  have BO:=Gn.same (aj.bM (b:=b) (c:=c) sB)
  have DP:=(mD BO (gl.mono (by decide) (by decide)) (fun ds z=>by injection z with z;rw[<-z,Ja];omega)).fit
  refine⟨_,rfl,_,_,rfl,BO.same bJ,DP.1,DP.2.1,DP.2.2,by show 6<=sizeLine;decide,fun o6 HC nC =>?_⟩
  have T5:=(T4.app (xZ (K:=K) (G:=bM HB b c) gl |> fun h=>⟨_,h⟩)).same (aj.bM (b:=b) (c:=c) nC.same)
  have Mm:=MO.same sB
  obtain⟨b6,c6⟩:=Mm.aY nC.nn
  have stC:=jo.trans (Step.same yT (Pw.trans nC.same))
  refine⟨_,rfl,b,c,_,6,rfl,stC.bx,by omega,by omega,by decide,by decide,fun k HD k0 k1 stD =>?_⟩
  have hl:k.toNat<([]++[v1]++[V.ref o2]++[V.non]++[V.ref o4]++[V.ref o5]++[V.str (Ah (.list (zs.map fun z=>PyData.tuple [.str z.2.1,.int (z.2.2:Nat)])))]:List V).length:=by show k.toNat<6;omega
  obtain⟨d,th⟩:=T5.same stD.sm _ (Jo hl)
  exact .inl ⟨o6,_,k,_,rfl,rfl,aK.of (stD.old nC.at b6 c6),e9 k0 (Jd hl),y1 _ _ (q d _ HD _ th ((stC.trans stD).more (by omega)))⟩
 refine g1 _ _ ?_
 clear g1 y1
 obtain⟨i,rfl⟩:∃i:Nat,ai=(i:Int):=⟨ai.toNat,by omega⟩
 have hi:i<zs.length:=by omega
 clear Bu a0 a1
 have Es:i6 H6 zs[i]:=bJ _ _ (oo.t _ (Jo hi))
 obtain⟨z1,z2,z3,z4⟩:=oo.b _ (Jo hi)
 have N4:(zs.map fun z=>V.ref z.1)[i]? = some (.ref zs[i].1):=by rw[Jk,Jd hi];rfl
 have Oe:Den K (bM H6 b c) (.tuple [.str zs[i].2.1,.int (zs[i].2.2:Nat)]) (.ref zs[i].1):=mf (oo.t _ (Jo hi)) (dR (by unfold Den;rfl) (dR (by unfold Den;rfl) mT))
 generalize zs[i]=z at Es z1 z2 z3 z4 N4 Oe
 have Nq:∀{H':Hp} {R:VK},H' p=some (.lst (zs.map fun z=>V.ref z.1))->R (.ref z.1) H'->GP K (.ref p) (.int (i:Int)) H' R:=fun h r =>.inl ⟨p,_,_,_,rfl,rfl,aK.of h,e9 (by omega) (by rw[U8];exact N4),r⟩
 refine bO (t:=gC _ _) fun D1 g1 y1 =>?_
 refine⟨_,rfl,_,rfl,Nq vY ⟨z.1,_,rfl,fP.of Es,rfl,_,_,rfl,_,_,rfl,rfl,g1 _ _ ?_⟩⟩
 clear g1 y1
 refine bO (t:=gC _ _) fun D1 g1 y1 =>?_
 refine⟨_,rfl,_,rfl,_,_,rfl,⟨sizeOk (by omega),rfl⟩,.inl ⟨_,_,rfl,rfl,b,c,_,_,rfl,yT,by omega,by omega,by omega,by omega,fun sp H7 p0 p1 jH=>gn (g1 _ _ ?_)⟩⟩
 clear g1 y1
 have Ot:=jH.ub
 have N1:=jH.le
 refine bO (t:=gC _ _) fun D1 g1 y1 =>?_
 refine⟨_,rfl,b,c,_,4,rfl,jH.bx,by omega,by omega,by decide,by decide,fun k H8 k0 k1 gR =>?_⟩
 obtain⟨ch,o8,ech⟩:∃ch:Nat,ch<128/\rg (Str.ofString "01 2").cps.toList k=some ch:=by
  have h:k=0∨k=1∨k=2∨k=3:=by omega
  rcases h with rfl|rfl|rfl|rfl
  ·exact⟨48,by decide,by decide +kernel⟩
  ·exact⟨49,by decide,by decide +kernel⟩
  ·exact⟨32,by decide,by decide +kernel⟩
  ·exact⟨50,by decide,by decide +kernel⟩
 refine .inr (.inr ⟨_,k,ch,rfl,rfl,by decide +kernel,ech,gn (g1 _ _ ?_)⟩)
 clear g1 y1
 have gR:=jH.trans gR
 clear jH Ot N1
 have IB:=gR.ub
 have KU:=gR.le
 refine dc (te:=GS _ _ _) (fun v H'=>cq fun(m:Int) (t':Int)=>v = .int m/\m.natAbs<2^31/\Step b c H6 H' t6 t' 4) (fun Qn qn =>?_) ?_
 ·refine⟨_,rfl,.inl ⟨_,_,rfl,rfl,_,rfl,_,_,rfl,rfl,_,_,rfl,_,rfl,_,_,rfl,rfl,⟨by decide,by decide,by decide⟩,.inl ⟨_,_,rfl,rfl,_,rfl,_,_,rfl,rfl,by show 5<=sizeLine;decide,fun L H9 n9 =>?_⟩⟩⟩
  have jY:=gR.eg n9
  obtain⟨Lb,Lc⟩:=gR.bx.aY n9.nn
  refine⟨_,rfl,b,c,_,5,rfl,jY.bx,by omega,by omega,by decide,by decide,fun k2 HA l0 l1 BC =>?_⟩
  have Fg:=BC.old n9.at Lb Lc
  have BC:=jY.trans BC
  have h:k2=0∨k2=1∨k2=2∨k2=3∨k2=4:=by omega
  rcases h with rfl|rfl|rfl|rfl|rfl
  ·exact .inl ⟨L,_,_,_,rfl,rfl,aK.of Fg,e9 (by decide) rfl,qn _ _ ⟨_,_,rfl,by omega,BC.more (by omega)⟩⟩
  ·refine .inl ⟨L,_,_,_,rfl,rfl,aK.of Fg,e9 (by decide) rfl,qn _ _ ⟨_,_,rfl,?_,BC.more (by omega)⟩⟩
   split<;>omega
  ·exact .inl ⟨L,_,_,_,rfl,rfl,aK.of Fg,e9 (by decide) rfl,qn _ _ ⟨_,_,rfl,by omega,BC.more (by omega)⟩⟩
  ·refine .inl ⟨L,_,_,_,rfl,rfl,aK.of Fg,e9 (by decide) rfl,qn _ _ ⟨_,_,rfl,?_,BC.more (by omega)⟩⟩
   show((z.2.2:Int)+10^9).natAbs<2^31
   omega
  ·exact .inl ⟨L,_,_,_,rfl,rfl,aK.of Fg,e9 (by decide) rfl,qn _ _ ⟨_,_,rfl,by omega,BC.more (by omega)⟩⟩
 intro v H9
 refine ae.go ?_
 rintro m t9 rfl hm jY
 refine gn ?_
 clear gR IB KU
 have BF:=jY.bx
 have O3:Pl K b c 201 H9 (.ref p):=xG (oo.same jY.sm)
 have uw:H9 p=some (.lst (zs.map fun z=>V.ref z.1)):=bJ _ _ (jY.sm _ _ oo.l)
 have d9:=oZ.same jY.sm
 have QJ:=Oe.same jY.sm
 have jY:=jo.trans jY
 rw[show(List.set _ _ _:L2.St)=[some (.ref b),some (.ref p),some (.int way),some (.int (i:Int)),some v0,some (.str z.2.1),some (.int (z.2.2:Nat)),some (.int sp),some (.str ⟨#[ch]⟩),some (.int m)] from rfl]
 have front:∀{H':Hp} {R:VK} (lo hi:Option Int),aj H9 H'->(∀v H2,aj H9 H2->aj H' H2->Pl K b c 201 H2 v->R v H2)->Ds K (.ref p) lo hi H' R:=fun{H' R} lo hi s' h=>Hl (BF.same s') (O3.same s') _ _ fun v H2 s2 _ pl2=>h v H2 (s'.trans s2) s2 pl2
 have one:∀{H' H2:Hp} {o:Addr} {v:V} {d:PyData},aj H9 H'->Den K (bM H' b c) d v->Gd 60 3 d->dX H' o (.lst [v]) H2->Pl K b c 1 H2 (.ref o):=fun{H' H2 o v d} s' hd gd n=>(sQ (BF.same s') hd gd n).2.2
 have add:∀{H':Hp} {R:VK} {u v:V} {n m:Nat},aj H9 H'->Pl K b c n H' u->Pl K b c m H' v->n+m<=410->(∀w H2,aj H9 H2->aj H' H2->Pl K b c (n+m) H2 w->R w H2)->wM u v H' R:=fun{H' R u v n m} s' h1 h2 hn h=>wI (BF.same s') h1 h2 (by omega) fun w H2 s2 _ pl2=>h w H2 (s'.trans s2) s2 pl2
 have xE:∀{H':Hp} {v:V} {n:Nat},aj H9 H'->Pl K b c n H' v->n<=410->Q v H':=fun s' h hn=>fin (jY.more (by omega)) s' h hn
 have refl:=aj.refl H9
 refine bO (t:=g7 _ _ _) fun D1 g1 y1 =>?_
 refine ng (fun Qn h=>⟨_,rfl,_,_,rfl,rfl,_,rfl,h _⟩) ?_ ?_
 ·refine⟨_,rfl,_,rfl,_,rfl,front _ _ refl fun v1 HA sA sA' plA =>?_⟩
  refine⟨_,rfl,_,rfl,by show 2<=sizeLine;decide,fun tp HB nB=>⟨by show 1<=sizeLine;decide,fun o HC nC =>?_⟩⟩
  have sB:=sA.trans nB.same
  have sC:=sB.trans nC.same
  obtain⟨tb,tc⟩:=(BF.same sA).aY nB.nn
  have DI:=one sB (d := .tuple [.str z.2.1,.int m]) (mf (by rw[bZ tb tc];exact nB.at) (dR (by unfold Den;rfl) (dR (by unfold Den;rfl) mT))) (tM (nV z1) (by omega) hm) nC
  refine add sC (plA.same (nB.same.trans nC.same)) DI (by decide) fun v2 HD sD sD' plD =>?_
  refine⟨_,rfl,_,rfl,.inl ⟨_,_,rfl,rfl,_,rfl,?_⟩⟩
  dsimp only[cU]
  refine front _ _ sD fun v3 HE sE sE' plE =>?_
  exact add sE (plD.same sE') plE (by decide) fun v4 HF sF _ plF=>y1 _ _ (xE sF plF (by decide))
 refine g1 _ _ ?_
 clear g1 y1
 refine bO (t:=g7 _ _ _) fun D1 g1 y1 =>?_
 refine ng (fun Qn h=>⟨_,rfl,_,_,rfl,rfl,_,rfl,h _⟩) ?_ ?_
 ·refine⟨_,rfl,_,rfl,_,rfl,front _ _ refl fun v1 HA sA sA' plA =>?_⟩
  refine⟨_,rfl,_,rfl,.inl ⟨_,_,rfl,rfl,_,rfl,?_⟩⟩
  dsimp only[cU]
  refine front _ _ sA fun v3 HE sE sE' plE =>?_
  exact add sE (plA.same sE') plE (by decide) fun v4 HF sF _ plF=>y1 _ _ (xE sF plF (by decide))
 refine g1 _ _ ?_
 clear g1 y1
 refine bO (t:=g7 _ _ _) fun D1 g1 y1 =>?_
 refine ng (fun Qn h=>⟨_,rfl,.inl ⟨rfl,_,rfl,h _⟩⟩) ?_ ?_
 ·refine⟨_,rfl,_,rfl,_,rfl,front _ _ refl fun v1 HA sA sA' plA =>?_⟩
  refine⟨_,rfl,_,rfl,Nq (sA _ _ uw) ⟨by show 1<=sizeLine;decide,fun o HC nC =>?_⟩⟩
  have sC:=sA.trans nC.same
  have DI:=one sA (QJ.same (aj.bM sA)) (tM (nV z1) (by omega) (by rw[Int.natAbs_natCast];omega)) nC
  refine add sC (plA.same nC.same) DI (by decide) fun v2 HD sD sD' plD =>?_
  refine⟨_,rfl,_,rfl,_,rfl,?_⟩
  dsimp only[cU]
  refine front _ _ sD fun v3 HE sE sE' plE =>?_
  exact add sE (plD.same sE') plE (by decide) fun v4 HF sF _ plF=>y1 _ _ (xE sF plF (by decide))
 refine g1 _ _ ?_
 clear g1 y1
 refine bO (t:=g7 _ _ _) fun D1 g1 y1 =>?_
 refine ng (fun Qn h=>⟨_,rfl,_,_,rfl,rfl,_,rfl,h _⟩) ?_ ?_
 ·refine⟨_,rfl,_,rfl,_,rfl,front _ _ refl fun v1 HA sA sA' plA =>?_⟩
  obtain⟨j,rfl⟩:∃j:Nat,sp=(j:Int):=⟨sp.toNat,by omega⟩
  obtain⟨k',LR,ek'⟩:∃k':Nat,(j:Int)+way%2=(k':Int)/\j<=k':=⟨((j:Int)+way%2).toNat,by omega,by omega⟩
  have la:(Txt.slice z.2.1 none (some (j:Int))).length<=j:=by
   rw[str_len]
   show(sg _).length<=j
   rw[wR,J1];omega
  have lb:(Txt.slice z.2.1 (some (k':Int)) none).length<=z.2.1.length-j:=by
   rw[str_len]
   show(sg _).length<=_
   rw[dE,Ui]
   have:z.2.1.length=(sg z.2.1).length:=str_len _
   omega
  have l1:((⟨#[ch]⟩:Str)).length=1:=rfl
  refine⟨_,rfl,_,rfl,_,rfl,.inr ⟨_,rfl,sizeOk (by omega),_,rfl,.inr (.inl ⟨_,_,rfl,rfl,sizeOk (by omega),?_⟩)⟩⟩
  refine⟨_,rfl,_,rfl,_,rfl,_,_,rfl,rfl,by omega,?_⟩
  refine .inl ⟨_,_,rfl,rfl,_,rfl,?_⟩
  dsimp only[cU]
  refine .inr ⟨_,rfl,sizeOk (by omega),?_⟩
  rw[LR]
  refine .inr (.inl ⟨_,_,rfl,rfl,by rw[cL];exact sizeOk (by omega),?_⟩)
  have xz:vL (Txt.slice z.2.1 none (some (j:Int))++(⟨#[ch]⟩:Str)++Txt.slice z.2.1 (some (k':Int)) none)=true:=iP.mpr fun e he=>by
   have G2:∀e∈sg z.2.1,e<128:=fun e he=>by rcases z1 e he with h|h<;>omega
   rw[bh,bh] at he
   rcases Jh.mp he with he|he
   ·rcases Jh.mp he with he|he
    ·have he:e∈sg (Txt.slice z.2.1 none (some (j:Int))):=he
     rw[wR] at he
     exact G2 e (Y2 he)
    ·have he:e∈[ch]:=he
     rw[Jg.mp he];exact o8
   ·have he:e∈sg (Txt.slice z.2.1 (some (k':Int)) none):=he
    rw[dE] at he
    exact G2 e (Y3 he)
  have xl:(Txt.slice z.2.1 none (some (j:Int))++(⟨#[ch]⟩:Str)++Txt.slice z.2.1 (some (k':Int)) none).length<=20:=by rw[cL,cL];omega
  generalize (Txt.slice z.2.1 none (some (j:Int))++(⟨#[ch]⟩:Str)++Txt.slice z.2.1 (some (k':Int)) none)=x at xz xl ⊢
  refine⟨_,rfl,by show 2<=sizeLine;decide,fun tp HB nB=>⟨by show 1<=sizeLine;decide,fun o HC nC =>?_⟩⟩
  have sB:=sA.trans nB.same
  have sC:=sB.trans nC.same
  obtain⟨tb,tc⟩:=(BF.same sA).aY nB.nn
  have zn:((z.2.2:Nat):Int).natAbs<2^31:=by rw[Int.natAbs_natCast];omega
  have DI:=one sB (d := .tuple [.str x,.int (z.2.2:Nat)]) (mf (by rw[bZ tb tc];exact nB.at) (dR (by unfold Den;rfl) (dR (by unfold Den;rfl) mT))) (tM xz xl zn) nC
  refine add sC (plA.same (nB.same.trans nC.same)) DI (by decide) fun v2 HD sD sD' plD =>?_
  refine⟨_,rfl,_,rfl,.inl ⟨_,_,rfl,rfl,_,rfl,?_⟩⟩
  dsimp only[cU]
  refine front _ _ sD fun v3 HE sE sE' plE =>?_
  exact add sE (plD.same sE') plE (by decide) fun v4 HF sF _ plF=>y1 _ _ (xE sF plF (by decide))
 refine g1 _ _ ?_
 clear g1 y1
 refine⟨_,rfl,_,rfl,_,rfl,front _ _ refl fun v1 HA sA sA' plA =>?_⟩
 refine⟨_,rfl,by show 1<=sizeLine;decide,fun o HC nC =>?_⟩
 have sC:=sA.trans nC.same
 have DI:=one sA (d9.same (aj.bM sA)) gd0 nC
 refine add sC (plA.same nC.same) DI (by decide) fun v2 HD sD sD' plD =>?_
 refine⟨_,rfl,_,rfl,.inl ⟨_,_,rfl,rfl,_,rfl,?_⟩⟩
 dsimp only[cU]
 refine front _ _ sD fun v3 HE sE sE' plE =>?_
 exact add sE (plD.same sE') plE (by decide) fun v4 HF sF _ plF=>xE sF plF (by decide)
end
theorem mK.same {K:Jb}{H H':Hp}{d:PyData}{v:V}(h:mK K H d v)(s:aj H H'):mK K H' d v:=⟨h.den.same s,h.pz,h.wt,h.pG⟩
theorem dbl {K:Jb}{H:Hp}{b:Bool}:Den K H (.bool b) (.bl b):=by unfold Den;rfl
section
variable {P:Program}{w:World}{K:Jb}{mg:Str->Option Value}{base:Heap}{f T0:Addr}{fd:FuncData}
theorem fF:aO ["_law_script", "_law_state", "_law_turn", "_law_book_here", "_law_codes", "_law_good_here", "_law_thing", "_law_kept", "_law_found"] ["_law_script"] (aA (top iW)):=⟨rfl,rfl,rfl,by decide +kernel,rfl,by decide +kernel,by decide +kernel⟩
theorem xf (F:dj K "law" "law" (top iW) f fd)(T:Nm mg)(pB:Fn P w K mg base 1 "_law_begin" ["_law_script"] (nW K))(qU:Fn P w K mg base 3 "_law_book" ["_law_state"] (ug K))(qV:Fn P w K mg base 7 "_law_good" ["_law_state", "_law_book_here", "_law_codes"] (oB K T0 (fD dY)))(nh:Fn P w K mg base 2 "_law_spoilt" ["_law_state", "_law_pairs"] (tP K))(lY:Fn P w K mg base 4 "shows_ranks" ["book", "thing"] (tD K))(uS:Fn P w K mg base 2 "_law_due" ["_law_codes", "_law_thing"] (AV K))(ir:Fn P w K mg base 6 "ranks_of" ["book"] (wc K)):
  bW P w K mg base fI 8 f fd ["_law_script"] (kL K T0):=by
 refine F.ok fF (fun vs H Q E h =>?_) (fun dZ A outer s H vs Q E hr h =>?_)
 ·obtain⟨a,ns,rfl,_⟩:=h
  rfl
 unfold kL at h
 refine ae.el h _ ?_
 clear h
 rintro a ns rfl hS hlen hT q
 have eK:=hr.units
 have small:∀{n:Nat},n<=30000->n<sizeLine:=fun h=>Ub h (by decide)
 refine⟨_,(ah (aN (i:=1) fF.nd rfl (Or.inr rfl) (aP (pB.mono (by decide)) hr rfl (aa (pv 0) ag)))
  (ah (fH PassesOwn.never rfl (du rfl T.n_range (aa ao ag)) (av (i:=2) fF.nd rfl (Or.inl rfl)) (ah (aN (i:=3) fF.nd rfl (Or.inl rfl) (aP (qU.mono (by decide)) hr rfl (aa (pv 1) ag)))
  (ah (bV (i:=4) fF.nd rfl (Or.inl rfl) rfl (aM (Nc:=["_law_name", "_law_code"]) (Fc:=[]) (js:=[])) (iA K (pv 3)) (eY (aU (az (i:=0) (n:=2) (by decide)) (aU (az (i:=1) (n:=2) (by decide)) dB aF bp) aF (bz aF bp))) (fun _ _ _ _ _=>(tupK K 2 rfl (aG (av (i:=0) (d4 ["_law_name", "_law_code"]) rfl (Or.inl rfl)) (aG (av (i:=1) (d4 ["_law_name", "_law_code"]) rfl (Or.inl rfl)) cy)))) (fun _ _ _ _ _=>aX) (fun _ _ _ _ _=>(pv 1)))
  (ah (aN (i:=5) fF.nd rfl (Or.inr rfl) (aP (qV.mono (by decide)) hr rfl (aa (pv 1) (aa (pv 3) (aa (pv 4) ag)))))
  (au (fH PassesOwn.never rfl (iA K (aH b0 (eP (aa (pv 5) ag)) (br rfl (aM (Nc:=["_law_k"]) (Fc:=["_law_state", "_law_good_here"]) (js:=[1,5])) (du rfl T.n_range (aa ao ag)) (az (i:=0) (n:=1) (by decide)) (fun _ _ _ _ _=>(av (i:=0) (d4 ["_law_k", "_law_state", "_law_good_here"]) rfl (Or.inl rfl))) (fun _ _ _ _ _=>aX) (fun _ _ _ _ _=>(aP (nh.mono (by decide)) hr rfl (aa (pv 1) (aa (pv 2) ag))))))) (av (i:=6) fF.nd rfl (Or.inl rfl)) (ah (aN (i:=7) fF.nd rfl (Or.inl rfl) (cC (DE K hr.gd eK) rfl T.n_str (by rfl) (aa (pv 6) ag)))
  (ah (aN (i:=8) fF.nd rfl (Or.inl rfl) (aP (lY.mono (by decide)) hr rfl (aa (pv 3) (aa (pv 6) ag))))
  (ah (bS (PW.pt (fJ (dU (cH (aw (kP K) rfl T.n_isinstance (by rfl) (aa (pv 8) (aa (cZ rfl T.n_bool (by rfl) (v := .ty "bool") rfl) ag))))) (fJ (aI (tE K eK) (pv 8) (aP (uS.mono (by decide)) hr rfl (aa (pv 4) (aa (pv 6) ag))) (aL _)) (gh (aI (tE K eK) (cC (DE K hr.gd eK) rfl T.n_str (by rfl) (aa (pv 6) ag)) (pv 7) (aL _)))))) (au (aJ dk)) aV)
  (au (bS (PW.pt (iw (cH (pv 8)) (gI (aI Fq (aP (ir.mono (by decide)) hr rfl (aa (pv 3) ag)) e7 (aL _))))) (au (aJ dk)) aV)))))))))))
  (au (aJ dk)))),?_⟩
 refine⟨_,rfl,a,ns,rfl,hS,hlen,fun b c H1 rV hb hc sm1=>gn ?_⟩
 have Em:=bJ _ _ (sm1 _ _ hT)
 dsimp only
 clear sm1 hS hlen
 refine cW (t:=qQ _ _ _) (fun σ H'=>True) (fun Nx nx =>?_) ?_
 ·refine⟨_,rfl,by decide,by decide,?_⟩
  refine hX (N:=3) (fun i σ H'=>cq fun(t':Int) (tb:Array Value)=>M3 fun(x2 x3 x4 x5 x6 x7 x8:Option V) =>σ=[some (.ref a),some (.ref b),x2,x3,x4,x5,x6,x7,x8]/\Bx H' b c t'/\0<=t'/\t'<=1000*i/\H' T0=some (.tbl tb)/\Tab H' (fD dY) qo tb) ⟨0,_,_,_,_,_,_,_,_,rfl,rV,Yk _,by decide,Em,.inl rfl⟩ ?_ ?_
  ·intro i σ H2 hi
   refine ae.go ?_
   rintro t2 tb x2 x3 x4 x5 x6 x7 x8 rfl vQ NB Pj Nv tab2
   refine⟨hi,?_⟩
   rintro x H2' ⟨rfl,rfl⟩
   refine gn ?_
   dsimp only
   refine bO (t:=gC _ _) fun D1 g1 y1 =>?_
   refine⟨_,rfl,b,c,t2,rfl,vQ,NB,by omega,fun B v H3 t3 gB qO hv cN=>gn ?_⟩
   obtain⟨l,vs,rfl,hl,hd⟩:=hv
   obtain⟨el,lb,lc⟩:=eE hl
   have Bm:=hd.same (bJ (H:=H3) (b:=b) (c:=c))
   have Ig:=j7 vQ cN Nv
   have zy:=iE vQ cN tab2
   have D0:=cN.bx
   have Q5:=cN.le
   have Rl:=cN.ub
   have Bf:=oO hd
   have Rm:=gB.le
   have Ov:o7 K (bM H3 b c) B l:=⟨vs,aK.of hl,hd⟩
   refine g1 _ _ ?_
   clear g1 y1
   refine dc (te:=fY _ _ _ _ _ _) (fun v H'=>∃cp,v = .ref cp/\dX H3 cp (.lst ((B.map (·.2)).map V.str)) H') (fun Qn qn =>?_) ?_
   ·have ji:aK K H3 l vs:=aK.of el
    refine⟨_,rfl,l,rfl,⟨_,ji⟩,?_⟩
    refine gu (N:=B.length) (fun k ys H'=>H'=H3/\ys=((B.take k).map (·.2)).map V.str) ⟨rfl,rfl⟩ ?_ ?_
    ·rintro k ys H5 Ny hk ⟨rfl,rfl⟩ ny
     refine ae.el (qm Bm hk) _ ?_
     rintro tp e1 e2
     refine⟨⟨_,_,ji,e1⟩,small (by rw[Ja,Ja,J1];omega),?_⟩
     rintro x H6 ⟨rfl,hy⟩
     have e:=hy _ ji
     rw[e1] at e;cases e
     refine⟨tp,_,rfl,e2,rfl,_,_,rfl,_,_,rfl,rfl,?_⟩
     dsimp only[fh]
     rw[if_pos rfl]
     refine⟨_,rfl,ny _ _ ⟨rfl,?_⟩⟩
     rw[aQ hk]
     show _=List.map V.str (List.map (·.2) (B.take k++[B[k]]))
     rw[Jl,Jl];rfl
    ·rintro ys H5 ⟨rfl,rfl⟩
     rw[J3]
     exact⟨⟨_,ji,by omega⟩,fun cp H6 n6=>qn _ _ ⟨cp,rfl,n6⟩⟩
   rintro v H4 ⟨cp,rfl,n4⟩
   refine gn ?_
   obtain⟨cb,cc⟩:=D0.aY n4.nn
   have D6:=D0.same n4.same
   have E7:=Ov.same (aj.bM (b:=b) (c:=c) n4.same)
   have AJ:bM H4 b c cp=some (.lst ((B.map (·.2)).map V.str)):=by rw[bZ cb cc];exact n4.at
   have vR:=n4.same _ _ Ig
   have vD:=eC zy n4.same
   have Ff:T0≠b/\T0≠c:=by
    obtain⟨ns,x⟩:=D6
    exact⟨(fun e=>by rw[e,x.d] at vR;cases vR),(fun e=>by rw[e,x.l] at vR;cases vR)⟩
   refine bO (t:=gC _ _) fun D1 g1 y1 =>?_
   refine⟨_,rfl,_,rfl,_,rfl,b,c,l,cp,t3,B,tb,rfl,D6,by omega,by omega,E7,gB,AJ,vR,vD,fun p zs H5 t5 tb5 PZ Qe pq k5 hT5 tab5 AI=>gn (g1 _ _ ?_)⟩
   clear g1 y1
   have Du:bM H4 b c T0=some (.tbl tb):=by rw[bZ Ff.1 Ff.2];exact vR
   have LX:=o7.kp k5 Du E7
   have HR:=Kp.at k5 Du AJ (fun z=>nomatch z)
   clear E7 AJ vR vD k5 Du Bm hl hd Bf Ov n4
   have TG:∃d,Th K (bM H5 b c) d (.ref p):=w5 (xG AI) (by decide)
   refine⟨_,rfl,by show 1<=sizeLine;decide,fun m4 H8 n8 =>?_⟩
   refine ae.el (BP pq n8) _ ?_
   rintro a8 b8 s8 D3
   have h8:=Step.same pq s8
   have T2:rh K (bM H8 b c) [.ref p]:=(rh.nil.app TG).same h8.sm
   clear TG
   refine⟨12,rfl,by decide,by decide,?_⟩
   refine bo (N:=12) (fun k ys H'=>∃t':Int,ys.length=k/\rh K (bM H' b c) ys/\Step b c H5 H' t5 t' (20*k)/\aj (bM H8 b c) (bM H' b c)) ⟨_,rfl,rh.nil,h8.more (by omega),aj.refl _⟩ ?_ ?_
   ·intro k ys H9 Nx hk hz_ nx
    refine ae.el hz_ _ ?_
    clear hz_
    rintro t9 Ee yO jY sm9
    have Rj:=jY.ub
    have Q3:=jY.le
    refine⟨hk,small (by omega),?_⟩
    rintro x' H10 ⟨rfl,rfl⟩
    refine gn ⟨_,rfl,_,rfl,b,c,p,t9,zs,rfl,jY.bx,by omega,by omega,AI.same jY.sm,fun d v H11 t11 th lR =>?_⟩
    exact nx _ _ ⟨t11,by rw[Jf,Ee];rfl,(yO.same lR.sm).app ⟨d,th⟩,(jY.trans lR).more (by omega),sm9.trans lR.sm⟩
   intro ys H9
   refine ae.go ?_
   rintro t9 Ee yO jY sm9
   refine⟨Je _,fun p6 vY =>?_⟩
   obtain⟨H10,n10⟩:∃H10,dX H9 p6 (.lst ys) H10:=⟨_,vY,rfl⟩
   rw[<-n10.eq]
   have MS:H10 m4=some (.lst [.ref p]):=n10.same _ _ (eE (sm9 _ _ (by rw[bZ a8 b8];exact n8.at))).1
   refine .inr (.inr ⟨m4,p6,_,_,rfl,rfl,MS,n10.at,sizeOk (by show 1+ys.length<=_;omega),fun p7 H11 n11 =>?_⟩)
   have lR:=((jY.eg n10).eg n11)
   have Hw:=n10.same.trans n11.same
   have TA:rh K (bM H11 b c) ([.ref p]++ys):=fun u hu=>by
    rcases Jh.mp hu with hu|hu
    ·exact(T2.same (sm9.trans (aj.bM Hw))) u hu
    ·exact(yO.same (aj.bM Hw)) u hu
   have JZ:o7 K H11 B l:=(LX.same lR.sm).same bJ
   have Lg:H11 cp=some (.lst ((B.map (·.2)).map V.str)):=bJ _ _ (lR.sm _ _ HR)
   have K7:=j7 pq lR hT5
   have EC:=iE pq lR tab5
   have TA:=TA.same bJ
   have ul:([V.ref p]++ys).length=13:=by rw[Jf,Ee];rfl
   generalize ([V.ref p]++ys)=us at TA n11 ul
   clear T2 yO sm9
   refine⟨p7,rfl,⟨_,aK.of n11.at⟩,?_⟩
   refine hX (N:=13) (fun k σ H'=>gO fun(x6 x7 x8:Option V) =>σ=[some (.ref a),some (.ref b),some (.int (0+i)),some (.ref l),some (.ref cp),some (.ref p),x6,x7,x8]/\aj H11 H') ⟨_,_,_,rfl,aj.refl _⟩ ?_ ?_
   ·intro k σ H12 hk
    refine ae.go ?_
    rintro y6 y7 y8 rfl sm12
    have Nl:k<us.length:=by omega
    have rK:us[k]? = some us[k]:=Jd Nl
    have Gy:aK K H12 p7 us:=aK.of (sm12 _ _ n11.at)
    refine⟨⟨_,_,Gy,rK⟩,?_⟩
    rintro x'' H13 ⟨rfl,hy⟩
    have e:=hy _ Gy
    rw[rK] at e;cases e
    refine ae.el (TA _ (Jo Nl)) _ ?_
    rintro d ⟨ask,f1,f2,f3⟩
    generalize us[k]=u at ask
    have ask:=ask.same sm12
    have EO:=JZ.same sm12
    have KL:=sm12 _ _ Lg
    refine gn ?_
    refine bO (t:=gC _ _) fun D1 g1 y1 =>?_
    refine⟨_,rfl,_,_,rfl,ask.den,f1,f2,f3,gn (g1 _ _ ?_)⟩
    clear g1 y1
    refine bO (t:=gC _ _) fun D1 g1 y1 =>?_
    refine⟨_,rfl,_,rfl,l,_,B,d,rfl,EO,gB,ask,fun r1 H14 i1 sm14=>gn (g1 _ _ ?_)⟩
    clear g1 y1
    refine bO (t:=g7 _ _ _) fun D1 g1 y1 =>?_
    refine⟨_,rfl,.inl ⟨_, "bool",.bool r1,_,rfl,dbl,(kb K (.bool _)).1,_,rfl,bI ?_⟩⟩
    refine⟨_,rfl,_,rfl,_,rfl,cp,_,B,d,rfl,aK.of (sm14 _ _ KL),gB,ask.same sm14,fun r2 H15 i2 uC =>.inl ⟨rfl,_,rfl,?_⟩⟩
    obtain rfl:r1=r2:=Bool.eq_iff_iff.mpr (i1.trans i2.symm)
    rw[decide_eq_true rfl]
    refine bI ?_
    refine⟨_,rfl,_,_,rfl,((ask.same sm14).same uC).den,f1,f2,f3,_,rfl,.inl ⟨rfl,_,rfl,?_⟩⟩
    rw[decide_eq_true rfl]
    refine bI (g1 _ _ ?_)
    clear g1 y1
    have uC:=sm14.trans uC
    refine⟨_,rfl,_,rfl,?_⟩
    cases r1 with
    | false=>exact bI (bI ⟨_,_,_,rfl,sm12.trans uC⟩)
    | true=>
     obtain⟨ps,e,yN,rk⟩:=i1.mp rfl
     refine bK ⟨_,rfl,l,B,rfl,EO.same uC,gB,fun H16 s16 zz =>?_,fun p16 zs16 H16 s16 _ _ =>?_⟩
     ·obtain⟨r,hr,hn⟩:=zz
      exact absurd (rk.all hr) hn
     ·exact .inl ⟨rfl,_,rfl,bI ⟨_,_,_,rfl,sm12.trans (uC.trans s16)⟩⟩
   ·intro σ H12
    refine ae.go ?_
    rintro y6 y7 y8 rfl sm12
    have CA:=lR.trans (Step.same lR.bx sm12)
    have QE:=CA.ub
    have PQ:=CA.le
    exact⟨⟨_,aK.of (sm12 _ _ n11.at),by omega⟩,_,tb5,_,_,_,_,_,_,_,rfl,CA.bx,by omega,by omega,sm12 _ _ K7,eC EC sm12⟩
  ·intro σ H2 hz_
   exact⟨Je _,nx _ _ trivial⟩
 intro σ H2 _
 exact q H2
end
theorem lenZ {α:Type}{P:List α->Prop}(h:P []):∀us:List α,us.length=0->P us:=fun us e=>J5 e▸h
theorem cu {α:Type}{P:List α->Prop}{n:Nat}(h:∀a (us:List α),us.length=n->P (a::us))(us:List α)(e:us.length=n+1):P us:=by
 cases us with|nil=>cases e|cons a us=>exact h a us (Nat.succ.inj e)
theorem all_mk {l:PySem.W.OpenLaw}{w:World}{K:Jb}{h:Heap}{mg:Str->Option Value}{fa f1 f2 f3 f4 f5 f6 f7 f8 f9 MQ JG JI Kw LW Kc Kf MX JR MW JT HY Kd JH LC Mx L6:Addr}(X:K.In h)(G:h.Ns mainGlobals mg)(Qs:mg "law" = some (.ref fa))
  {P7:FuncData}
  {OW:FuncData}
  {Pa:FuncData}
  {Qb:FuncData}
  {Py:FuncData}
  {Qt:FuncData}
  {QB:FuncData}
  {Pu:FuncData}
  {PN:FuncData}
  {MN:FuncData}
  {Mb:FuncData}
  {L8:FuncData}
  {M5:FuncData}
  {Ky:FuncData}
  {JF:FuncData}
  {L7:FuncData}
  {Kh:FuncData}
  {M9:FuncData}
  {L4:FuncData}
  {IX:FuncData}
  {ML K5:Option Addr} {LN:Array (Option Value)} {LH Kg LJ Iy K4:Value}
  {JV:FuncData}
  {Ms:FuncData}
  {IQ:FuncData}
  {Mr:FuncData}
  {LD G5:Option Addr} {JD:Array (Option Value)} {Ko FR Ha FZ BS GC:Value}
  {MC:Tok}
  {Qw:Option Addr} {BG:Array Value} {Qg:Array (Option Value)} {Hd:Str} {PY Ox QL:Tok} {CL GV:Int} {Mc:Bool}
  (a1:Jy K mainGlobals "made_of" = some (some (.ref f1))) (F1:dj K "made_of" "made_of" (top i7) f1 P7)
  (a2:Jy K mainGlobals "is_code" = some (some (.ref f2))) (F2:dj K "is_code" "is_code" (top jm) f2 OW)
  (a3:Jy K mainGlobals "rest_of" = some (some (.ref f3))) (F3:dj K "rest_of" "rest_of" (top jh) f3 Pa)
  (a4:Jy K mainGlobals "is_number" = some (some (.ref f4))) (F4:dj K "is_number" "is_number" (top fU) f4 Qb)
  (a5:Jy K mainGlobals "length_first" = some (some (.ref f5))) (F5:dj K "length_first" "length_first" (top eJ) f5 Py)
  (a6:Jy K mainGlobals "code_ends" = some (some (.ref f6))) (F6:dj K "code_ends" "code_ends" (top gz) f6 Qt)
  (a7:Jy K mainGlobals "lags_behind" = some (some (.ref f7))) (F7:dj K "lags_behind" "lags_behind" (top eW) f7 QB)
  (a8:Jy K mainGlobals "is_ranked" = some (some (.ref f8))) (F8:dj K "is_ranked" "is_ranked" (top fW) f8 Pu)
  (a9:Jy K mainGlobals "falls" = some (some (.ref f9))) (F9:dj K "falls" "falls" (top nM) f9 PN)
  (Iv:Jy K mainGlobals "shows_ranks" = some (some (.ref MQ))) (EM:dj K "shows_ranks" "shows_ranks" (top eX) MQ MN)
  (JY:Jy K mainGlobals "lags_of" = some (some (.ref JG))) (Er:dj K "lags_of" "lags_of" (top jg) JG Mb)
  (MM:Jy K mainGlobals "ending_lags" = some (some (.ref JI))) (EF:dj K "ending_lags" "ending_lags" (top eV) JI L8)
  (MK:Jy K mainGlobals "ranks_of" = some (some (.ref Kw))) (FK:dj K "ranks_of" "ranks_of" (top hZ) Kw M5)
  (LG:Jy K mainGlobals "_law_begin" = some (some (.ref LW))) (Fe:dj K "_law_begin" "_law_begin" (top gi) LW Ky)
  (LM:Jy K mainGlobals "_law_take" = some (some (.ref Kc))) (Eo:dj K "_law_take" "_law_take" (top gZ) Kc JF)
  (JO:Jy K mainGlobals "_law_names" = some (some (.ref Kf))) (Fz:dj K "_law_names" "_law_names" (top gG) Kf L7)
  (Ld:Jy K mainGlobals "_law_free" = some (some (.ref MX))) (EW:dj K "_law_free" "_law_free" (top il) MX Kh)
  (Ku:Jy K mainGlobals "_law_sizes" = some (some (.ref JR))) (E5:dj K "_law_sizes" "_law_sizes" (top fV) JR M9)
  (IL:Jy K mainGlobals "_law_book" = some (some (.ref MW))) (Ez:dj K "_law_book" "_law_book" (top g9) MW L4)
  (L9:Jy K mainGlobals "_law_left" = some (some (.ref JT))) (EH:dj K "_law_left" "_law_left" (top ij) JT IX)
  (Mj:Jy K mainGlobals "_law_lags" = some (some (.ref HY))) (Lr:K.lookup HY=some ⟨LH,ML,.func (We "_law_lags" "_law_lags" (fA (top cV)) (dA (top cV)) (aA (top cV)) .none Kg LJ Iy K5 (.ref 140) K4),LN⟩) (Lx:PySem.W.codeIn K (.ref 140) "_law_lags" = true) (Ie:PySem.W.keepIn K (.ref HY)=true)
  (IG:Jy K mainGlobals "_law_is_pair" = some (some (.ref Kd))) (Gg:dj K "_law_is_pair" "_law_is_pair" (top eU) Kd JV)
  (Kz:Jy K mainGlobals "_law_due" = some (some (.ref JH))) (Gh:dj K "_law_due" "_law_due" (top jw) JH Ms)
  (KN:Jy K mainGlobals "_law_good" = some (some (.ref LC))) (FG:dj K "_law_good" "_law_good" (top hJ) LC IQ)
  (Kq:Jy K mainGlobals "_law_spoilt" = some (some (.ref Mx))) (Fh:dj K "_law_spoilt" "_law_spoilt" (top fx) Mx Mr)
  (Lu:Jy K mainGlobals "law" = some (some (.ref L6))) (LQ:K.lookup L6=some ⟨Ko,LD,.func (We "law" "law" (fA (top iW)) (dA (top iW)) (aA (top iW)) .none FR Ha FZ G5 BS GC),JD⟩) (Ls:PySem.W.codeIn K BS "law" = true) (K9:PySem.W.keepIn K (.ref L6)=true)
  (JB:Jy K mainGlobals "SIGNS" = some (some (.str dS MC)))
  (K3:K.lookup 140=some ⟨.type "code",Qw,.fields BG,Qg⟩)
  (v11:BG[11]? = some (.ref 138))
  (B2:BG.getD 11 .none = .ref 138)
  (M8:BG.getD 18 .none = .str Hd PY)
  (v7:BG.getD 7 .none = .int CL Ox)
  (v9:BG.getD 9 .none = .bool Mc)
  (v10:BG.getD 10 .none = .int GV QL)
  (y0:Jy K mainGlobals "sorted" = some none)
  (y1:Jy K mainGlobals "set" = some none)
  (y2:Jy K mainGlobals "dict" = some none)
  (z0:Jy K mainGlobals "len" = some none) (z1:Jy K mainGlobals "range" = some none) (z2:Jy K mainGlobals "max" = some none) (z3:Jy K mainGlobals "min" = some none) (z4:Jy K mainGlobals "sum" = some none) (z5:Jy K mainGlobals "all" = some none) (z6:Jy K mainGlobals "any" = some none) (z7:Jy K mainGlobals "list" = some none) (z8:Jy K mainGlobals "tuple" = some none) (z9:Jy K mainGlobals "int" = some none) (Mn:Jy K mainGlobals "str" = some none) (Lv:Jy K mainGlobals "bool" = some none) (JJ:Jy K mainGlobals "zip" = some none) (JU:Jy K mainGlobals "enumerate" = some none) (MY:Jy K mainGlobals "isinstance" = some none) (KR:Jy K mainGlobals "divmod" = some none) :
  ∃fd:FuncData,(∀(s:Shared) (v:Value),BindsTo s fd ⟨[v],[]⟩ [("_law_script",v)])/\∀base:Heap,K.In base->base.Ns mainGlobals mg->base.BuiltinsAt mg 138->bW l.prog w K mg base fI 8 fa fd ["_law_script"] (kL K 138):=by
 have e:=Qs.symm.trans (Ue X G Lu)
 cases e
 have T:Nm mg:=⟨Ud X G z0,Ud X G z1,Ud X G z2,Ud X G z3,Ud X G z4,Ud X G z5,Ud X G z6,Ud X G z7,Ud X G z8,Ud X G z9,Ud X G Mn,Ud X G Lv,Ud X G JJ,Ud X G JU,Ud X G MY,Ud X G KR⟩
 have dg:=Ud X G y0
 have wV:=Ud X G y1
 have rX:=Ud X G y2
 have nK:=Ue X G JB
 have k1:=F1.kp
 have b1:=F1.binds (ps:=["text", "signs"]) fun _ _ _ _ _ _=>cu fun _=>cu fun _=>lenZ rfl
 have k2:=F2.kp
 have b2:=F2.binds (ps:=["thing"]) fun _ _ _ _ _ _=>cu fun _=>lenZ rfl
 have k3:=F3.kp
 have b3:=F3.binds (ps:=["one", "other"]) fun _ _ _ _ _ _=>cu fun _=>cu fun _=>lenZ rfl
 have k4:=F4.kp
 have b4:=F4.binds (ps:=["thing"]) fun _ _ _ _ _ _=>cu fun _=>lenZ rfl
 have k5:=F5.kp
 have b5:=F5.binds (ps:=["text"]) fun _ _ _ _ _ _=>cu fun _=>lenZ rfl
 have k6:=F6.kp
 have b6:=F6.binds (ps:=["book"]) fun _ _ _ _ _ _=>cu fun _=>lenZ rfl
 have k7:=F7.kp
 have b7:=F7.binds (ps:=["book", "lag"]) fun _ _ _ _ _ _=>cu fun _=>cu fun _=>lenZ rfl
 have k8:=F8.kp
 have b8:=F8.binds (ps:=["thing"]) fun _ _ _ _ _ _=>cu fun _=>lenZ rfl
 have k9:=F9.kp
 have b9:=F9.binds (ps:=["book", "ranks", "lag"]) fun _ _ _ _ _ _=>cu fun _=>cu fun _=>cu fun _=>lenZ rfl
 have P5:=EM.kp
 have OQ:=EM.binds (ps:=["book", "thing"]) fun _ _ _ _ _ _=>cu fun _=>cu fun _=>lenZ rfl
 have QM:=Er.kp
 have O9:=Er.binds (ps:=["book"]) fun _ _ _ _ _ _=>cu fun _=>lenZ rfl
 have QR:=EF.kp
 have Pq:=EF.binds (ps:=["book"]) fun _ _ _ _ _ _=>cu fun _=>lenZ rfl
 have QC:=FK.kp
 have Px:=FK.binds (ps:=["book"]) fun _ _ _ _ _ _=>cu fun _=>lenZ rfl
 have Pg:=Fe.kp
 have Qo:=Fe.binds (ps:=["_law_script"]) fun _ _ _ _ _ _=>cu fun _=>lenZ rfl
 have Pt:=Eo.kp
 have Ph:=Eo.binds (ps:=["_law_state", "_law_many"]) fun _ _ _ _ _ _=>cu fun _=>cu fun _=>lenZ rfl
 have PX:=Fz.kp
 have PR:=Fz.binds (ps:=["_law_state", "_law_many"]) fun _ _ _ _ _ _=>cu fun _=>cu fun _=>lenZ rfl
 have Qu:=EW.kp
 have OA:=EW.binds (ps:=["_law_state", "_law_many", "_law_most"]) fun _ _ _ _ _ _=>cu fun _=>cu fun _=>cu fun _=>lenZ rfl
 have OM:=E5.kp
 have OB:=E5.binds (ps:=["_law_state"]) fun _ _ _ _ _ _=>cu fun _=>lenZ rfl
 have QU:=Ez.kp
 have OX:=Ez.binds (ps:=["_law_state"]) fun _ _ _ _ _ _=>cu fun _=>lenZ rfl
 have O7:=EH.kp
 have Qf:=EH.binds (ps:=["_law_one", "_law_other"]) fun _ _ _ _ _ _=>cu fun _=>cu fun _=>lenZ rfl
 have NA:=bC (st:=top cV) Lr Lx Ie
 have OL:=NA.binds (ps:=["_law_codes"]) fun _ _ _ _ _ _=>cu fun _=>lenZ rfl
 have Pk:=Gg.kp
 have O4:=Gg.binds (ps:=["_law_thing"]) fun _ _ _ _ _ _=>cu fun _=>lenZ rfl
 have P4:=Gh.kp
 have OJ:=Gh.binds (ps:=["_law_codes", "_law_thing"]) fun _ _ _ _ _ _=>cu fun _=>cu fun _=>lenZ rfl
 have PB:=FG.kp
 have QK:=FG.binds (ps:=["_law_state", "_law_book_here", "_law_codes"]) fun _ _ _ _ _ _=>cu fun _=>cu fun _=>cu fun _=>lenZ rfl
 have Qz:=Fh.kp
 have Qa:=Fh.binds (ps:=["_law_state", "_law_pairs"]) fun _ _ _ _ _ _=>cu fun _=>cu fun _=>lenZ rfl
 have QN:=bC (st:=top iW) LQ Ls K9
 refine⟨We "law" "law" (fA (top iW)) (dA (top iW)) (aA (top iW)) .none FR Ha FZ G5 BS GC,fun s v =>.of_eq rfl,fun base hB hG LBL =>?_⟩
 have Qy:PySem.W.CodeHd base 140 138:=⟨_,BG,_,_,_,_,_,_,_,hB _ _ K3,rfl,rfl,v11,B2,M8,v7,v9,v10,by decide⟩
 have E6:Fn l.prog w K mg base 1 "made_of" ["text", "signs"] (oC):=⟨f1,_,zE F1 T,b1,k1,Ue X G a1⟩
 have Mv:Fn l.prog w K mg base 2 "is_code" ["thing"] (cK K pe):=⟨f2,_,Cs F2 T nK E6,b2,k2,Ue X G a2⟩
 have FI:Fn l.prog w K mg base 1 "rest_of" ["one", "other"] (nU):=⟨f3,_,Ai F3 T,b3,k3,Ue X G a3⟩
 have JN:Fn l.prog w K mg base 1 "is_number" ["thing"] (cK K xo):=⟨f4,_,Ci F4 T,b4,k4,Ue X G a4⟩
 have OP:Fn l.prog w K mg base 1 "length_first" ["text"] (AB):=⟨f5,_,GO F5 T,b5,k5,Ue X G a5⟩
 have NJ:Fn l.prog w K mg base 1 "code_ends" ["book"] (yy K):=⟨f6,_,Gp F6 T,b6,k6,Ue X G a6⟩
 have Li:Fn l.prog w K mg base 2 "lags_behind" ["book", "lag"] (u0 K):=⟨f7,_,EY F7 T FI,b7,k7,Ue X G a7⟩
 have QW:Fn l.prog w K mg base 3 "is_ranked" ["thing"] (cK K sZ):=⟨f8,_,Hs F8 T Mv JN,b8,k8,Ue X G a8⟩
 have Qp:Fn l.prog w K mg base 3 "falls" ["book", "ranks", "lag"] (zQ K):=⟨f9,_,Gf F9 T Li,b9,k9,Ue X G a9⟩
 have LB:Fn l.prog w K mg base 4 "shows_ranks" ["book", "thing"] (tD K):=⟨MQ,_,CQ EM T QW NJ Qp,OQ,P5,Ue X G Iv⟩
 have NW:Fn l.prog w K mg base 4 "lags_of" ["book"] (xB K):=⟨JG,_,FT Er T dg NJ OP,O9,QM,Ue X G JY⟩
 have Pm:Fn l.prog w K mg base 5 "ending_lags" ["book"] (yW K):=⟨JI,_,GF EF T NW Li,Pq,QR,Ue X G MM⟩
 have Nt:Fn l.prog w K mg base 6 "ranks_of" ["book"] (wc K):=⟨Kw,_,EA FK T NW Pm Li,Px,QC,Ue X G MK⟩
 have DM:Fn l.prog w K mg base 1 "_law_begin" ["_law_script"] (nW K):=⟨LW,_,yb Fe T,Qo,Pg,Ue X G LG⟩
 have EI:Fn l.prog w K mg base 1 "_law_take" ["_law_state", "_law_many"] (qW):=⟨Kc,_,zk Eo T,Ph,Pt,Ue X G LM⟩
 have Eh:Fn l.prog w K mg base 1 "_law_take" ["_law_state", "_law_many"] (qM):=Fn.imp EI (fun _ _ _ _ h=>Ar h)
 have O1:Fn l.prog w K mg base 2 "_law_names" ["_law_state", "_law_many"] (zo):=⟨Kf,_,Ap Fz T Eh,PR,PX,Ue X G JO⟩
 have FX:Fn l.prog w K mg base 2 "_law_free" ["_law_state", "_law_many", "_law_most"] (zL):=⟨MX,_,zC EW T Eh,OA,Qu,Ue X G Ld⟩
 have QZ:Fn l.prog w K mg base 2 "_law_sizes" ["_law_state"] (CV):=⟨JR,_,G7 E5 T Eh,OB,OM,Ue X G Ku⟩
 have PL:Fn l.prog w K mg base 3 "_law_book" ["_law_state"] (ug K):=⟨MW,_,AF Ez T dg wV Eh QZ FX O1,OX,QU,Ue X G IL⟩
 have E4:Fn l.prog w K mg base 1 "_law_left" ["_law_one", "_law_other"] (pQ):=⟨JT,_,Dq EH T,Qf,O7,Ue X G L9⟩
 have LF:Fn l.prog w K mg base 1 "_law_left" ["_law_one", "_law_other"] (wk):=Fn.imp E4 (fun _ _ _ _ h=>yA h)
 have FJ:Fn l.prog w K mg base 5 "_law_lags" ["_law_codes"] (oI K 138 (fD dY)):=⟨HY,_,AN NA T dg rfl Qy LBL (by decide) LF,OL,Ie,Ue X G Mj⟩
 have II:Fn l.prog w K mg base 1 "_law_is_pair" ["_law_thing"] (cK K sZ):=⟨Kd,_,Cp Gg T,O4,Pk,Ue X G IG⟩
 have Oz:Fn l.prog w K mg base 2 "_law_due" ["_law_codes", "_law_thing"] (AV K):=⟨JH,_,GN Gh T rX II E4,OJ,P4,Ue X G Kz⟩
 have Gz:Fn l.prog w K mg base 7 "_law_good" ["_law_state", "_law_book_here", "_law_codes"] (oB K 138 (fD dY)):=⟨LC,_,zV FG T Eh Nt FJ,QK,PB,Ue X G KN⟩
 have K2:Fn l.prog w K mg base 2 "_law_spoilt" ["_law_state", "_law_pairs"] (tP K):=⟨Mx,_,CP Fh T Eh,Qa,Qz,Ue X G Kq⟩
 exact xf QN T DM PL Gz K2 LB Oz Nt
theorem walk {l:PySem.W.OpenLaw}{q:Program}{loose:List Str}{XP:(Str->Option Value)->Heap->Prop}{YP:World->Heap->Prop}{d:DefRec}{K:Params->Jb}(hn:l.most=some 63)(EB:d.params.defaults=[])
  (hY:∀(w:World) (h:Heap),YP w h->(K w.params).In h)
  (JP:∀(w:World) (h:Heap),YP w h->h.get? 138=some (PySem.W.tabObj #[])) (hc:∀w:World,∃c o vs,(K w.params).lookup c=some o/\o.cls = .type "code" /\ o.data = .fields vs/\vs[11]? = some (.ref 138)) (kT:∀w:World,(K w.params).lookup 138=none)
  (F:∀(w:World) (mg:Str->Option Value) (fa:Addr) (h:Heap),(K w.params).In h->h.Ns mainGlobals mg->mg d.name=some (.ref fa) ->
   ∃fd:FuncData,(∀(s:Shared) (u:Value),BindsTo s fd ⟨[u],[]⟩ [("_law_script",u)])/\∀base:Heap,(K w.params).In base->base.Ns mainGlobals mg->base.BuiltinsAt mg 138->bW l.prog w (K w.params) mg base fI 8 fa fd ["_law_script"] (kL (K w.params) 138)) :
  PySem.W.WalkO q loose XP YP l.row.toRowW d [] (fun f vs=>PySem.call f vs):=
 L2.wH (T:=138) (n:=63) (k:=8) (x := "_law_script") (CX:=fun _=>fI) (sp:=fun w=>kL (K w.params) 138) hn (by decide) EB ⟨rfl,by decide,by decide,rfl⟩ hY JP hc kT F (fun _ _ a ns hl hT hS=>⟨a,ns,rfl,hS,hl,hT,fun _=>rfl⟩) fun _ _ _ _ _ z=>z
end Z
open PySem PySem.W PyProof.Rows L2
set_option maxRecDepth 100000 in
set_option maxHeartbeats 0 in
theorem PySem.Challenge.cw_oddlong_k64_shows_ranks_holds : PySem.Challenge.rw_oddlong_k64_shows_ranks.Holds := by
  w_on; o_law; k_head; (case hw => w_witness2)
  k_fill
  refine Z.walk (l := PySem.Challenge.rw_oddlong_k64_shows_ranks) rfl rfl (fun w h Y => PySem.W.km_in_of Y) (fun w h Y => PySem.W.km_tabs_of Y 138 (by decide)) ?C ?KT ?F
  case C => exact fun w => ⟨140, _, _, by k_is, rfl, rfl, rfl⟩
  case KT => exact fun w => rfl
  case F =>
    intro w mg fa h KX G hmg
    refine' Z.all_mk KX G hmg ?a1 ?F1 ?a2 ?F2 ?a3 ?F3 ?a4 ?F4 ?a5 ?F5 ?a6 ?F6 ?a7 ?F7 ?a8 ?F8 ?a9 ?F9 ?Iv ?EM ?JY ?Er ?MM ?EF ?MK ?FK ?LG ?Fe ?LM ?Eo ?JO ?Fz ?Ld ?EW ?Ku ?E5 ?IL ?Ez ?L9 ?EH ?Mj ?Lr ?Lx ?Ie ?IG ?Gg ?Kz ?Gh ?KN ?FG ?Kq ?Fh ?Lu ?LQ ?Ls ?K9 ?JB ?K3 ?v11 ?B2 ?M8 ?v7 ?v9 ?v10 ?y0 ?y1 ?y2 ?z0 ?z1 ?z2 ?z3 ?z4 ?z5 ?z6 ?z7 ?z8 ?z9 ?Mn ?Lv ?JJ ?JU ?MY ?KR
    (case a1 => k_is); (case F1 => (refine' bC ?l ?c ?k; (case l => k_is); (case c => k_is); (case k => k_is))); (case a2 => k_is); (case F2 => (refine' bC ?l ?c ?k; (case l => k_is); (case c => k_is); (case k => k_is))); (case a3 => k_is); (case F3 => (refine' bC ?l ?c ?k; (case l => k_is); (case c => k_is); (case k => k_is))); (case a4 => k_is); (case F4 => (refine' bC ?l ?c ?k; (case l => k_is); (case c => k_is); (case k => k_is)))
    (case a5 => k_is); (case F5 => (refine' bC ?l ?c ?k; (case l => k_is); (case c => k_is); (case k => k_is))); (case a6 => k_is); (case F6 => (refine' bC ?l ?c ?k; (case l => k_is); (case c => k_is); (case k => k_is))); (case a7 => k_is); (case F7 => (refine' bC ?l ?c ?k; (case l => k_is); (case c => k_is); (case k => k_is))); (case a8 => k_is); (case F8 => (refine' bC ?l ?c ?k; (case l => k_is); (case c => k_is); (case k => k_is)))
    (case a9 => k_is); (case F9 => (refine' bC ?l ?c ?k; (case l => k_is); (case c => k_is); (case k => k_is))); (case Iv => k_is); (case EM => (refine' bC ?l ?c ?k; (case l => k_is); (case c => k_is); (case k => k_is))); (case JY => k_is); (case Er => (refine' bC ?l ?c ?k; (case l => k_is); (case c => k_is); (case k => k_is))); (case MM => k_is); (case EF => (refine' bC ?l ?c ?k; (case l => k_is); (case c => k_is); (case k => k_is)))
    (case MK => k_is); (case FK => (refine' bC ?l ?c ?k; (case l => k_is); (case c => k_is); (case k => k_is))); (case LG => k_is); (case Fe => (refine' bC ?l ?c ?k; (case l => k_is); (case c => k_is); (case k => k_is))); (case LM => k_is); (case Eo => (refine' bC ?l ?c ?k; (case l => k_is); (case c => k_is); (case k => k_is))); (case JO => k_is); (case Fz => (refine' bC ?l ?c ?k; (case l => k_is); (case c => k_is); (case k => k_is)))
    (case Ld => k_is); (case EW => (refine' bC ?l ?c ?k; (case l => k_is); (case c => k_is); (case k => k_is))); (case Ku => k_is); (case E5 => (refine' bC ?l ?c ?k; (case l => k_is); (case c => k_is); (case k => k_is))); (case IL => k_is); (case Ez => (refine' bC ?l ?c ?k; (case l => k_is); (case c => k_is); (case k => k_is))); (case L9 => k_is); (case EH => (refine' bC ?l ?c ?k; (case l => k_is); (case c => k_is); (case k => k_is)))
    (case Mj => k_is); (case Lr => k_is); (case Lx => k_is); (case Ie => k_is); (case IG => k_is); (case Gg => (refine' bC ?l ?c ?k; (case l => k_is); (case c => k_is); (case k => k_is))); (case Kz => k_is); (case Gh => (refine' bC ?l ?c ?k; (case l => k_is); (case c => k_is); (case k => k_is)))
    (case KN => k_is); (case FG => (refine' bC ?l ?c ?k; (case l => k_is); (case c => k_is); (case k => k_is))); (case Kq => k_is); (case Fh => (refine' bC ?l ?c ?k; (case l => k_is); (case c => k_is); (case k => k_is))); (case Lu => k_is); (case LQ => k_is); (case Ls => k_is); (case K9 => k_is)
    (case JB => k_is); (case K3 => k_is); (case v11 => rfl); (case B2 => rfl); (case M8 => rfl); (case v7 => rfl); (case v9 => rfl); (case v10 => rfl)
    (case y0 => k_is); (case y1 => k_is); (case y2 => k_is); (case z0 => k_is); (case z1 => k_is); (case z2 => k_is); (case z3 => k_is); (case z4 => k_is)
    (case z5 => k_is); (case z6 => k_is); (case z7 => k_is); (case z8 => k_is); (case z9 => k_is); (case Mn => k_is); (case Lv => k_is); (case JJ => k_is)
    (case JU => k_is); (case MY => k_is); (case KR => k_is)
