import PyProof.Rows.All
import Wide.All
import OpenK.AllK
import Wide.FinOn
import PyProof.EqAt
import PyProof.EqKinds
import PyProof.TupleCall
import PyProof.DictCompW
import PyProof.Rows.SortWalk
import OpenK.KRaise
import PyProof.ExcClass2
import KE.KTryMore
import KE.KSortTup
import KE.KIsAll
import PyProof.ListRange
import PyProof.StrBlock2
import PyProof.Rows.SetFrom
import PyProof.SetRoads
import PyProof.ReprRoads
import PyProof.CallStr
import PyProof.Rows.SortStr
import KE.KSortKey
import KE.KMinKey
import PyProof.Rows.Range3
import PyProof.Rows.IntBool
import KE.KRevIter
import PyProof.MeetsSeq
import PyProof.MinMaxWalk
import PyProof.SliceStr2
import PyProof.P3Eq
import PyProof.Rows.StrLen
import PyProof.Rows.StrCase
import PyProof.InstStoreFacts
import PyProof.ExcInit
import PyProof.StrCalls
import PyProof.DictIter
import PyProof.DictWalks
import PyProof.AutoIntG2
import PyProof.Rows.TupDisplay
import KE.KDictList
import PyProof.DictItems
import PyProof.RulesTry
import PyProof.EnumMake
import PyProof.Draws
import PyProof.FactsAll.set_1
import PyProof.IsiH_list
import KE.KDictOf
import PyProof.DictUpdate
import PyProof.StrLawsRepr
import Lean
import PySem.Challenge.RW_oddlong_k61_ranks
local macro_rules | `(tactic| omega) => `(tactic| lia)
set_option Elab.async false
set_option linter.all false
set_option maxRecDepth 100000
open List renaming length_map → Ja, mem_singleton → Jd, length_append → Je, getElem?_eq_getElem → Jg, map_append → Jh, mem_append → Ji, mem_append_right → Jj, getElem?_map → Jl, getElem_mem → Jn, replicate → Jp, mem_cons_of_mem → Jq, size_toArray → Jr, mem_cons_self → Js, length_cons → Jt, mem_append_left → Jx, getElem?_eq_some_iff → Jy, mem_map → J0, take_length → J3, mem_cons → J5, length_take → J6, eq_nil_of_length_eq_zero → J7, mem_map_of_mem → J8, length → J9, map_cons → Uc, getElem?_append_right → Ud, pairwise_append → Ug, length_replicate → Uk, getElem?_append_left → Ul, append_nil → Uo, length_pos_iff → Uu, append_assoc → Uv, length_drop → Uw, lookup_cons → Ux, append_cancel_left → U0, nodup_cons → U2, filter_cons → U3, Perm → U4, mem_iff_getElem? → U5, replicate_succ → U7, nodup_iff_pairwise_ne → U9, mem_iff_getElem → Yb, pairwise_iff_getElem → Yc, map_map → Ye, take_append_drop → Yi, length_filter_le → Yj, eraseIdx_eq_take_drop_succ → Ym, toList_toArray → Yo, length_range → Yp, perm_append_comm → Yq, length_nil → Yr, dropLast_concat_getLast → Yt, getElem?_replicate → Yu, getD_eq_getElem?_getD → Yx, drop_eq_getElem_cons → Y1, all_eq_true → Y3, mem_of_getElem? → Y4, replicate_succ' → Y7, take_sublist → Y8, take_of_length_le → Wb, mem_reverse → Wd, range → We, mem_filter → Wg, of_mem_zip → Wh, forIn_cons → Wi, drop_sublist → Wn, mem_of_mem_drop → Wq, mem_range → Wr, nodup_nil → Ws
open PySem.Heap renaming get?_push_of_some → Jb, lt_size → Jk, get?_push_size → Jo, get?_update_other → Uq, get?_update_self → Ur, SameBut → U6, size_push → Yg, get?_update_ne → Yz
open PySem.W renaming Frag → Jc, nsIn → J1, mg_of → Ui, mg_none_of → Uj, kia_one → Yf, kitOne → Yw, fnOf → Wk
open Nat renaming le_refl → Jf, le_trans → Ju, lt_of_lt_of_le → Jv, ne_of_lt → Jz, lt_of_le_of_lt → Ue, le_add_right → Um, zero_le → Us, lt_of_le_of_ne → Ut, le_of_lt → Uy, add_le_add_left → U8, lt_irrefl → Ya, ne_of_gt → Yk, le_succ → Yv, le_of_eq → Yy, min_eq_left → Y0, le_of_not_lt → Y2, le_sub_one_of_lt → Y5, sub_one_lt_of_le → Y6, add_sub_of_le → Y9, add_sub_cancel_left → Wa, succ_le_succ → Wc, lt_succ_of_lt → Wl, le_of_lt_succ → Wm, lt_of_succ_lt → Wo
open Bool renaming false_ne_true → Jm, false_eq_true → Ua, and_eq_true → Yh
open Array renaming length_toList → Jw, getElem?_eq_getElem → Ub, getElem?_toList → Uh, toList_append → U1, getElem?_eq_none → Yd, toList_push → Yl, perm_iff_toList_perm → Wf, size_push → Wj
open Int renaming toNat_natCast → Uz, le_refl → Yn, le_of_lt → Ys
namespace L2
set_option genSizeOf false
set_option genInjectivity false
inductive bO {α0 α1:Type}(P: α0 -> α1->Prop):Prop|mk (x0: α0) (x1: α1) (h:P x0 x1):bO P
inductive fq {α0 α1 α2:Type}(P: α0 -> α1 -> α2->Prop):Prop|mk (x0: α0) (x1: α1) (x2: α2) (h:P x0 x1 x2):fq P
inductive lU {α0 α1 α2 α3:Type}(P: α0 -> α1 -> α2 -> α3->Prop):Prop|mk (x0: α0) (x1: α1) (x2: α2) (x3: α3) (h:P x0 x1 x2 x3):lU P
inductive Ej {α0 α1 α2 α3 α4:Type}(P: α0 -> α1 -> α2 -> α3 -> α4->Prop):Prop|mk (x0: α0) (x1: α1) (x2: α2) (x3: α3) (x4: α4) (h:P x0 x1 x2 x3 x4):Ej P
inductive Gx {α0 α1 α2 α3 α4 α5:Type}(P: α0 -> α1 -> α2 -> α3 -> α4 -> α5->Prop):Prop|mk (x0: α0) (x1: α1) (x2: α2) (x3: α3) (x4: α4) (x5: α5) (h:P x0 x1 x2 x3 x4 x5):Gx P
set_option genSizeOf true
set_option genInjectivity true
class ae (P:Prop) (F:outParam (Prop->Prop)):Prop where
 el:P->∀G:Prop,F G->G
theorem ae.go {P:Prop}{F:Prop->Prop}[i:ae P F]{G:Prop}(k:F G):P->G:=fun h=>i.el h G k
instance (priority:=low) elimBase {P:Prop}:ae P (fun G=>P->G):=⟨fun h _ k=>k h⟩
instance Mw {α:Sort u} {P: α->Prop} {F: α->Prop->Prop} [h:∀x,ae (P x) (F x)]:ae (∃x,P x) (fun G=>∀x,F x G):=⟨fun⟨x,hx⟩ G k=>(h x).el hx G (k x)⟩
instance Ia {A B:Prop} {F:Prop->Prop} [h:ae B F]:ae (A/\B) (fun G=>A->F G):=⟨fun⟨a,b⟩ G k=>h.el b G (k a)⟩
instance Ir {α0 α1:Type} {P: α0 -> α1->Prop} {F: α0 -> α1->Prop->Prop} [i:∀x0 x1,ae (P x0 x1) (F x0 x1)]:ae (bO P) (fun G=>∀x0 x1,F x0 x1 G):=⟨fun⟨x0,x1,h⟩ G k=>(i x0 x1).el h G (k x0 x1)⟩
instance HR {α0 α1 α2:Type} {P: α0 -> α1 -> α2->Prop} {F: α0 -> α1 -> α2->Prop->Prop} [i:∀x0 x1 x2,ae (P x0 x1 x2) (F x0 x1 x2)]:ae (fq P) (fun G=>∀x0 x1 x2,F x0 x1 x2 G):=⟨fun⟨x0,x1,x2,h⟩ G k=>(i x0 x1 x2).el h G (k x0 x1 x2)⟩
instance HZ {α0 α1 α2 α3:Type} {P: α0 -> α1 -> α2 -> α3->Prop} {F: α0 -> α1 -> α2 -> α3->Prop->Prop} [i:∀x0 x1 x2 x3,ae (P x0 x1 x2 x3) (F x0 x1 x2 x3)]:ae (lU P) (fun G=>∀x0 x1 x2 x3,F x0 x1 x2 x3 G):=⟨fun⟨x0,x1,x2,x3,h⟩ G k=>(i x0 x1 x2 x3).el h G (k x0 x1 x2 x3)⟩
instance IA {α0 α1 α2 α3 α4:Type} {P: α0 -> α1 -> α2 -> α3 -> α4->Prop} {F: α0 -> α1 -> α2 -> α3 -> α4->Prop->Prop} [i:∀x0 x1 x2 x3 x4,ae (P x0 x1 x2 x3 x4) (F x0 x1 x2 x3 x4)]:ae (Ej P) (fun G=>∀x0 x1 x2 x3 x4,F x0 x1 x2 x3 x4 G):=⟨fun⟨x0,x1,x2,x3,x4,h⟩ G k=>(i x0 x1 x2 x3 x4).el h G (k x0 x1 x2 x3 x4)⟩
instance Ij {α0 α1 α2 α3 α4 α5:Type} {P: α0 -> α1 -> α2 -> α3 -> α4 -> α5->Prop} {F: α0 -> α1 -> α2 -> α3 -> α4 -> α5->Prop->Prop} [i:∀x0 x1 x2 x3 x4 x5,ae (P x0 x1 x2 x3 x4 x5) (F x0 x1 x2 x3 x4 x5)]:ae (Gx P) (fun G=>∀x0 x1 x2 x3 x4 x5,F x0 x1 x2 x3 x4 x5 G):=⟨fun⟨x0,x1,x2,x3,x4,x5,h⟩ G k=>(i x0 x1 x2 x3 x4 x5).el h G (k x0 x1 x2 x3 x4 x5)⟩
open PySem PySem.Spec PyProof.Rows
noncomputable abbrev Key:=Sum Int Str
noncomputable def mU:Key->Value->Bool
 | .inl k,v=>Value.isInt k v
 | .inr x,v=>Value.isStrOf x v
noncomputable def JU (w:World):Key->Int
 | .inl k=>hashInt k
 | .inr x=>hashStr w x
theorem bC:∀{k:Key} {v:Value},mU k v=true->(∃i t,k=Sum.inl i/\v=Value.int i t)∨(∃x t,k=Sum.inr x/\v=Value.str x t)
 | .inl i,v,h=>by
  obtain⟨t,e⟩:=Value.isInt_shape (k:=i) (v:=v) h
  exact .inl ⟨i,t,rfl,e⟩
 | .inr x,v,h=>by
  obtain⟨t,e⟩:=Value.isStrOf_shape (x:=x) (v:=v) h
  exact .inr ⟨x,t,rfl,e⟩
theorem vi (i:Int)(t:Tok):mU (.inl i) (.int i t)=true:=by simp[mU,Value.isInt]
theorem uA (x:Str)(t:Tok):mU (.inr x) (.str x t)=true:=by simp[mU,Value.isStrOf]
theorem DP (a b:Int):decide ((Sum.inl a:Key)=Sum.inl b)=(a==b):=by
 by_cases e:a=b
 ·subst e;simp
 ·have h:¬(Sum.inl a:Key)=Sum.inl b:=fun q=>e (Sum.inl.inj q)
  rw[decide_eq_false h]
  exact(beq_eq_false_iff_ne.mpr e).symm
theorem Cj (a b:Str):decide ((Sum.inr a:Key)=Sum.inr b)=decide (a=b):=by
 by_cases e:a=b
 ·subst e;simp
 ·have h:¬(Sum.inr a:Key)=Sum.inr b:=fun q=>e (Sum.inr.inj q)
  rw[decide_eq_false h,decide_eq_false e]
theorem DE (a:Int)(b:Str):decide ((Sum.inl a:Key)=Sum.inr b)=false:=decide_eq_false (fun q=>nomatch q)
theorem B9 (a:Str)(b:Int):decide ((Sum.inr a:Key)=Sum.inl b)=false:=decide_eq_false (fun q=>nomatch q)
noncomputable def aU (prog:Program)(w:World):PySem.KeyKind prog w Key where
 is:=mU
 hash:=JU w
 inj:=fun v a b ha hb=>by
  rcases bC ha with ⟨i,t,rfl,rfl⟩|⟨x,t,rfl,rfl⟩
  ·rcases bC hb with ⟨j,u,rfl,e⟩|⟨y,u,rfl,e⟩
   ·injection e with e1 _;rw[e1]
   ·exact nomatch e
  ·rcases bC hb with ⟨j,u,rfl,e⟩|⟨y,u,rfl,e⟩
   ·exact nomatch e
   ·injection e with e1 _;rw[e1]
 byValue:=fun k v h=>by
  rcases bC h with ⟨i,t,rfl,rfl⟩|⟨x,t,rfl,rfl⟩<;>rfl
 pyHash:=fun hv h=>by
  rcases bC hv with ⟨i,t,rfl,rfl⟩|⟨x,t,rfl,rfl⟩
  ·exact wpAny_pyHash_int h
  ·exact wpAny_pyHash_str h
 eqBool:=fun hu hv h=>by
  rcases bC hu with ⟨i,t,rfl,rfl⟩|⟨x,t,rfl,rfl⟩
  ·rcases bC hv with ⟨j,u,rfl,rfl⟩|⟨y,u,rfl,rfl⟩
   ·rw[DP] at h;exact wpAny_eqBool_int h
   ·rw[DE] at h;exact SeqAt.EqAt.int_str i t y u _ _ _ _ h
  ·rcases bC hv with ⟨j,u,rfl,rfl⟩|⟨y,u,rfl,rfl⟩
   ·rw[B9] at h;exact SeqAt.EqAt.str_int x t j u _ _ _ _ h
   ·rw[Cj] at h;exact wpAny_eqBool_str h
 «strs»:=fun k x t v h=>by
  rcases bC h with ⟨i,u,rfl,e⟩|⟨y,u,rfl,e⟩
  ·exact nomatch e
  ·injection e with e1 _
   subst e1
   cases v<;>rfl
theorem pS (prog:Program)(w:World)(i:Int)(t:Tok):(aU prog w).is (.inl i) (.int i t)=true:=vi i t
theorem qL (prog:Program)(w:World)(x:Str)(t:Tok):(aU prog w).is (.inr x) (.str x t)=true:=uA x t
inductive V where
 | non|bl (b:Bool)|int (i:Int)|str (x:Str)|byt (b:Array UInt8)|flt (b:UInt64)|ref (a:Addr)|ty (n:String)
 deriving DecidableEq
def RelV:V->Value->Prop
 | .non,u=>u=Value.none
 | .bl b,u=>u=Value.bool b
 | .int i,u=>∃t,u=Value.int i t
 | .str x,u=>∃t,u=Value.str x t
 | .byt b,u=>∃t,u=Value.bytes b t
 | .flt b,u=>∃t,u=Value.float b t
 | .ref a,u=>u=Value.ref a
 | .ty n,u=>u=Value.type n
abbrev Vals:List V->List Value->Prop:=Paired RelV
theorem Vals.length {xs:List V}{us:List Value}(r:Vals xs us):xs.length=us.length:=Paired.length r
theorem Vals.get:∀{xs:List V} {us:List Value} {i:Nat} {x:V},Vals xs us->xs[i]? = some x->∃u,us[i]? = some u/\RelV x u
 | _,_,_,_,.nil,e=>by simp at e
 | _,_,0,_,.cons r _,e=>by simp at e;subst e;exact⟨_,rfl,r⟩
 | _,_,i+1,x,.cons _ t,e=>by
  obtain⟨u,h1,h2⟩:=Vals.get (i:=i) (x:=x) t (by simpa using e)
  exact⟨u,by simpa using h1,h2⟩
theorem Vals.set {x:V}{u:Value}(r:RelV x u):∀{xs:List V} {us:List Value} (i:Nat),Vals xs us->Vals (xs.set i x) (us.set i u)
 | _,_,_,.nil =>.nil
 | _,_,0,.cons _ t =>.cons r t
 | _,_,i+1,.cons q t =>.cons q (Vals.set r i t)
theorem Vals.append {xs ys:List V}{us ws:List Value}(h:Vals xs us)(s:Vals ys ws):Vals (xs++ys) (us++ws):=by
 induction h with
 | nil=>exact s
 | cons r t ih=>exact .cons r ih
theorem Vals.take:∀{xs:List V} {us:List Value} (n:Nat),Vals xs us->Vals (xs.take n) (us.take n)
 | _,_,0,_ =>.nil
 | _,_,_+1,.nil =>.nil
 | _,_,n+1,.cons r t =>.cons r (Vals.take n t)
theorem Vals.drop:∀{xs:List V} {us:List Value} (n:Nat),Vals xs us->Vals (xs.drop n) (us.drop n)
 | _,_,0,r=>r
 | _,_,_+1,.nil =>.nil
 | _,_,n+1,.cons _ t=>Vals.drop n t
def kH:Option V->Option Value->Prop
 | some v,some u=>RelV v u
 | none,none=>True
 | _,_=>False
def KV {κ:Type}:List (κ×V)->List (κ×Value)->Prop:=Paired fun(p: κ×V) (q: κ×Value)=>p.1=q.1/\RelV p.2 q.2
noncomputable def kV:Key->V
 | .inl i =>.int i
 | .inr x =>.str x
inductive HO where
 | lst (xs:List V)
 | tup (xs:List V)
 | dK (kvs:List (Key×V))|dT (kvs:List (List Key×V))
 | set (S:Int->Bool) (n:Nat)
 | ins (C dx:Addr) (fs:List (Str×V))
 | own (x:Addr)
 | xd (fs:List (Str×V))
 | met (f x:Addr)
 | rng (lo hi:Int)
 | frz (o:Obj) (u:HO)
 | tbl (ps:Array Value)
 | ext (φ:Heap->Prop)
noncomputable abbrev Hp:=Addr->Option HO
noncomputable def upd (H:Hp)(a:Addr)(o:HO):Hp:=fun b=>if b=a then some o else H b
theorem ar {H:Hp}{a:Addr}{o:HO}:upd H a o a=some o:=by unfold upd;rw[if_pos rfl]
theorem aj {H:Hp}{a b:Addr}{o:HO}(h:b≠a):upd H a o b=H b:=by unfold upd;rw[if_neg h]
theorem zU {H:Hp}{a:Addr}{o u:HO}:upd (upd H a o) a u=upd H a u:=by
 funext b;unfold upd;split<;>rfl
theorem xN {H:Hp}{a b:Addr}{o u:HO}(h:H a=some o)(h':H b=some u)(d:o≠u):a≠b:=by
 intro e;subst e;rw[h] at h';exact d (Option.some.inj h')
theorem ai {H:Hp}{a b:Addr}{o:HO}(h:H a=some o)(h':H b=none):a≠b:=by
 intro e;subst e;rw[h] at h';cases h'
section
variable (P:Program)(w:World)
def bq (H:Hp)(h:Heap)(a:Addr):HO->Prop
 | .lst xs=>xs.length<=sizeLine/\bO fun(az:List Value) (n:Nat)=>Vals xs az/\h.get? a=some { cls := .type "list",data := .seq az.toArray n }
 | .tup xs=>xs.length<=sizeLine/\∃az:List Value,Vals xs az/\IsTup h a az.toArray
 | .dK kvs=>kvs.length<=sizeLine/\(a==sysModules)=false/\∃vs,KV kvs vs/\h.DictOf (aU P w) a vs
 | .dT kvs=>kvs.length<=sizeLine/\(a==sysModules)=false/\∃xs:List (List Key×Addr×Value),
   Paired (fun(p:List Key×V) (q:List Key×Addr×Value)=>p.1=q.1/\H q.2.1=some (.tup (p.1.map kV))/\RelV p.2 q.2.2) kvs xs /\
   fq fun o es ep=>h.get? a=some o/\o.ExactDict/\o.data = .dict es ep/\es.toList=xs.map (entryOfKey (tupleKind (aU P w)))/\(xs.map (·.1)).Nodup
 | .set S n=>h.SetOf (intKind P w) a S n
 | .ins C dx fs=>H dx=some (.own a)/\fs.length<=1000/\dx≠a/\h.get? a=some (PySem.W.instObj C dx) /\
   ∃mA,h.Ns1 dx mA/\(∀f,kH (fs.lookup f) (mA f))/\PySem.Within mA (fs.map (·.1))
 | .own _=>∃o,h.get? a=some o
 | .xd fs=>∃mA,h.Ns1 a mA/\∀f,kH (fs.lookup f) (mA f)
 | .rng lo hi=>fq fun t u v=>h.get? a=some { cls := .type "range",data := .fields #[.int lo t,.int hi u,.int 1 v] }
 | .frz o u=>h.get? a=some o/\bq H h a u
 | .tbl ps=>h.get? a=some { cls := .none,data := .fields ps }
 | .met f x=>h.get? a=some (PySem.W.methodObj (.ref f) (.ref x))
 | .ext φ => φ h/\(∃o,h.get? a=some o)/\∀h1 h2:Heap, φ h1->(∀o,h1.get? a=some o->h2.get? a=some o) -> φ h2
def fZ (H:Hp)(h:Heap):Prop:=∀a o,H a=some o->bq P w H h a o
end
section
variable {P:Program}{w:World}{H H':Hp}{h h':Heap}{a:Addr}{o:HO}
theorem bq.lt (x:bq P w H h a o):a<h.objs.size:=by
 cases o with
 | lst xs=>obtain⟨_,_,_,_,e⟩:=x;exact Jk e
 | tup xs=>obtain⟨_,_,_,p⟩:=x;exact p.lt
 | dK kvs=>obtain⟨_,_,_,_,o,_,_,e,_⟩:=x;exact Jk e
 | dT kvs=>obtain⟨_,_,_,_,o,_,_,e,_⟩:=x;exact Jk e
 | set S n=>obtain⟨o,_,_,_,e,_⟩:=x;exact Jk e
 | ins C dx fs=>obtain⟨_,_,_,e,_⟩:=x;exact Jk e
 | own y=>obtain⟨_,e⟩:=x;exact Jk e
 | xd fs=>obtain⟨_,⟨_,_,_,e,_⟩,_⟩:=x;exact Jk e
 | rng lo hi=>obtain⟨_,_,_,e⟩:=x;exact Jk e
 | frz ob u=>obtain⟨e,_⟩:=x;exact Jk e
 | tbl ps=>exact Jk (show h.get? a=some _ from x)
 | met f y=>exact Jk (show h.get? a=some _ from x)
 | ext φ=>obtain⟨_,⟨_,e⟩,_⟩:=x;exact Jk e
theorem Paired.DZ {α β:Type}{F G: α -> β->Prop}{l₁:List α}{l₂:List β}(h:Paired F l₁ l₂)(f:∀a b,F a b->G a b):Paired G l₁ l₂:=by
 induction h with
 | nil=>exact .nil
 | cons r t ih=>exact .cons (f _ _ r) ih
theorem Paired.imp' {α β:Type}{F G: α -> β->Prop}(f:∀a b,F a b->G a b){l₁:List α}{l₂:List β}(r:Paired F l₁ l₂):Paired G l₁ l₂:=Paired.DZ r f
theorem bq.kM (x:bq P w H h a o)(k:∀b u,(b=a∨H b=some (.own a))->h.get? b=some u->h'.get? b=some u)
  (ho:∀b,H b=some (.own a)->H' b=some (.own a)) (ht:∀b xs,H b=some (.tup xs)->H' b=some (.tup xs)):bq P w H' h' a o:=by
 induction o with
 | lst xs=>obtain⟨z,az,n,r,e⟩:=x;exact⟨z,az,n,r,k _ _ (.inl rfl) e⟩
 | tup xs=>obtain⟨z,az,r,ob,e,c⟩:=x;exact⟨z,az,r,ob,k _ _ (.inl rfl) e,c⟩
 | dK kvs=>obtain⟨z,y,vs,r,ob,es,ep,e,c⟩:=x;exact⟨z,y,vs,r,ob,es,ep,k _ _ (.inl rfl) e,c⟩
 | dT kvs=>
  obtain⟨z,y,xs,r,ob,es,ep,e,c⟩:=x
  exact⟨z,y,xs,Paired.DZ r fun p q z=>⟨z.1,ht _ _ z.2.1,z.2.2⟩,ob,es,ep,k _ _ (.inl rfl) e,c⟩
 | set S n=>obtain⟨ob,es,ep,t,e,c⟩:=x;exact⟨ob,es,ep,t,k _ _ (.inl rfl) e,c⟩
 | ins C dx fs=>
  obtain⟨d,z,ne,e,mA,⟨od,es,ep,e2,c⟩,r⟩:=x
  exact⟨ho _ d,z,ne,k _ _ (.inl rfl) e,mA,⟨od,es,ep,k _ _ (.inr d) e2,c⟩,r⟩
 | own y=>obtain⟨ob,e⟩:=x;exact⟨ob,k _ _ (.inl rfl) e⟩
 | xd fs=>obtain⟨mA,⟨od,es,ep,e,c⟩,r⟩:=x;exact⟨mA,⟨od,es,ep,k _ _ (.inl rfl) e,c⟩,r⟩
 | rng lo hi=>obtain⟨t,u,v,e⟩:=x;exact⟨t,u,v,k _ _ (.inl rfl) e⟩
 | frz ob u ih=>obtain⟨e,q⟩:=x;exact⟨k _ _ (.inl rfl) e,ih q⟩
 | tbl ps=>
  have e:h.get? a=some { cls := .none,data := .fields ps }:=x
  show h'.get? a=some { cls := .none,data := .fields ps }
  exact k a _ (.inl rfl) e
 | met f y=>
  have e:h.get? a=some (PySem.W.methodObj (.ref f) (.ref y)):=x
  show h'.get? a=some (PySem.W.methodObj (.ref f) (.ref y))
  exact k a _ (.inl rfl) e
 | ext φ=>obtain⟨p,⟨o,e⟩,st⟩:=x;exact⟨st _ _ p fun o q=>k _ _ (.inl rfl) q,⟨o,k _ _ (.inl rfl) e⟩,st⟩
theorem fZ.lt (x:fZ P w H h)(e:H a=some o):a<h.objs.size:=(x a o e).lt
theorem fZ.fresh (x:fZ P w H h)(e:h.objs.size<=a):H a=none:=by
 cases q:H a with
 | none=>rfl
 | some u=>exact absurd (Jv (x.lt q) e) (Ya _)
theorem fZ.kept (x:fZ P w H h)(k:∀b u,h.get? b=some u->h'.get? b=some u):fZ P w H h':=fun a o e=>
 (x a o e).kM (fun b u _ q=>k b u q) (fun _ q=>q) fun _ _ q=>q
theorem fZ.laid (x:fZ P w H h)(k:∀b u,h.get? b=some u->h'.get? b=some u)(hp:h.objs.size<=a)(new:bq P w (upd H a o) h' a o):fZ P w (upd H a o) h':=fun b u e=>by
 have hn:=x.fresh hp
 by_cases hb:b=a
 ·subst hb;rw[ar] at e;cases e;exact new
 ·rw[aj hb] at e
  exact(x b u e).kM (fun c v _ q=>k c v q) (fun c q=>by rw[aj (ai q hn)];exact q) fun c xs q=>by rw[aj (ai q hn)];exact q
end
def Rd (H:Hp)(a:Addr)(u:HO):Prop:=H a=some u∨∃o,H a=some (.frz o u)
theorem Rd.ok {P:Program}{w:World}{H:Hp}{h:Heap}{a:Addr}{u:HO}(r:Rd H a u)(x:fZ P w H h):bq P w H h a u:=by
 rcases r with r|⟨o,r⟩
 ·exact x a u r
 ·obtain⟨_,q⟩:=x a _ r
  exact q
def EI:Option HO->Prop
 | some (.lst _)=>True
 | some (.dK _)=>True
 | some (.dT _)=>True
 | some (.set _ _)=>True
 | some (.ins _ _ _)=>True
 | some (.ext _)=>True
 | _=>False
section
variable {P:Program}{w:World}{H:Hp}{h h':Heap}{x e:Addr}{o':HO}
theorem fZ.write (ok:fZ P w H h)(mu:EI (H x))(he:e=x∨H e=some (.own x))(k:∀b u,b≠e->h.get? b=some u->h'.get? b=some u)(Eb:∃u,h'.get? e=some u)
  (new:bq P w (upd H x o') h' x o'):fZ P w (upd H x o') h':=fun b u q=>by
 have EA:∀c y,H c=some (.own y)->c≠x:=fun c y r z=>by subst z;rw[r] at mu;exact mu
 have Km:∀c xs,H c=some (.tup xs)->c≠x:=fun c xs r z=>by subst z;rw[r] at mu;exact mu
 by_cases hb:b=x
 ·subst hb;rw[ar] at q;cases q;exact new
 ·rw[aj hb] at q
  by_cases hbe:b=e
  ·have q':H b=some (.own x):=by
    rcases he with z|z
    ·exact absurd (hbe.trans z) hb
    ·rw[hbe];exact z
   rw[q] at q';cases q'
   obtain⟨v,hv⟩:=Eb
   exact⟨v,by rw[hbe];exact hv⟩
  ·refine(ok b u q).kM (fun c v hc r=>k c v ?_ r) (fun c r=>by rw[aj (EA c b r)];exact r) fun c xs r=>by rw[aj (Km c xs r)];exact r
   rcases hc with rfl|hc
   ·exact hbe
   ·rintro rfl
    rcases he with z|z
    ·exact EA c b hc z
    ·rw[hc] at z;cases z;exact hb rfl
end
structure Un (fs ex:List Addr)(H H':Hp)(h h':Heap):Prop where
 keep:∀b o,h.get? b=some o->H b=none->b∉fs->b∉ex->h'.get? b=some o
 slot:∀b o,h.get? b=some o->H b=none->b∈fs->b∉ex->∃sl,h'.get? b=some { o with slots:=sl }
 free:∀b o,h.get? b=some o->H b=none->b∉ex->H' b=none
 there:∀b o,h.get? b=some o->b∉ex->∃o',h'.get? b=some o'
 gC:∀b xs,H b=some (.tup xs)->H' b=some (.tup xs)
 fB:∀b o u,H b=some (.frz o u)->H' b=some (.frz o u)
 gM:∀b ps,H b=some (.tbl ps)->∃more,H' b=some (.tbl (ps++more))
section
variable {fs oq ex RK:List Addr}{H H1 H2:Hp}{h h1 h2 h':Heap}{a x e:Addr}{o:HO}
theorem Un.any (u:Un fs ex H H1 h h1){b:Addr}{ob:Obj}(q:h.get? b=some ob)(n:H b=none)(hx:b∉ex):∃sl,h1.get? b=some { ob with slots:=sl }:=by
 by_cases hb:b∈fs
 ·exact u.slot b ob q n hb hx
 ·exact⟨ob.slots,u.keep b ob q n hb hx⟩
theorem Un.trans (a:Un fs ex H H1 h h1)(b:Un fs ex H1 H2 h1 h2):Un fs ex H H2 h h2 where
 keep:=fun c ob q n hc hx=>b.keep c ob (a.keep c ob q n hc hx) (a.free c ob q n hx) hc hx
 slot:=fun c ob q n hc hx=>by
  obtain⟨sl,e1⟩:=a.slot c ob q n hc hx
  obtain⟨Gh,e2⟩:=b.slot c _ e1 (a.free c ob q n hx) hc hx
  exact⟨Gh,e2⟩
 free:=fun c ob q n hx=>by
  obtain⟨o',e1⟩:=a.there c ob q hx
  exact b.free c o' e1 (a.free c ob q n hx) hx
 there:=fun c ob q hx=>by
  obtain⟨o',e1⟩:=a.there c ob q hx
  exact b.there c o' e1 hx
 gC:=fun c xs q=>b.gC c xs (a.gC c xs q)
 fB:=fun c ob xs q=>b.fB c ob xs (a.fB c ob xs q)
 gM:=fun c ps q=>by
  obtain⟨m1,e1⟩:=a.gM c ps q
  obtain⟨m2,e2⟩:=b.gM c _ e1
  exact⟨m1++m2,by rw[e2,Array.append_assoc]⟩
theorem Un.kept (k:∀b u,h.get? b=some u->h'.get? b=some u):Un fs ex H H h h':=
 ⟨fun b ob q _ _ _=>k b ob q,fun b ob q _ _ _=>⟨ob.slots,k b ob q⟩,fun _ _ _ n _=>n,fun b ob q _=>⟨ob,k b ob q⟩,fun _ _ q=>q,fun _ _ _ q=>q,fun _ ps q=>⟨#[],by rw[q];simp⟩⟩
theorem Un.refl:Un fs ex H H h h:=Un.kept fun _ _ q=>q
theorem Un.laid (k:∀b u,h.get? b=some u->h'.get? b=some u)(hp:h.objs.size<=a)(hn:H a=none):Un fs ex H (upd H a o) h h' where
 keep:=fun b u q _ _ _=>k b u q
 slot:=fun b u q _ _ _=>⟨u.slots,k b u q⟩
 free:=fun b u q n _=>by rw[aj (Jz (Jv (Jk q) hp))];exact n
 there:=fun b u q _=>⟨u,k b u q⟩
 gC:=fun b xs q=>by rw[aj (ai q hn)];exact q
 fB:=fun b u xs q=>by rw[aj (ai q hn)];exact q
 gM:=fun b ps q=>⟨#[],by rw[aj (ai q hn),q];simp⟩
theorem Un.write (mu:EI (H x))(he:e=x∨H e=some (.own x))(k:∀b u,b≠e->h.get? b=some u->h'.get? b=some u)(Eb:∃u,h'.get? e=some u):Un fs ex H (upd H x o) h h':=by
 have hx:∀b,H b=none->b≠x:=fun b n z=>by subst z;rw[n] at mu;exact mu
 have hb:∀b,H b=none->b≠e:=fun b n z=>by
  subst z
  rcases he with r|r
  ·exact hx b n r
  ·rw[n] at r;cases r
 have hm:∀b u,H b=some u->¬EI (some u)->b≠x:=fun b u q nm z=>by subst z;rw[q] at mu;exact nm mu
 refine⟨fun b u q n _ _=>k b u (hb b n) q,fun b u q n _ _=>⟨u.slots,k b u (hb b n) q⟩,fun b u q n _=>by rw[aj (hx b n)];exact n,fun b u q _ =>?_,
  fun b xs q=>by rw[aj (hm b _ q fun z=>z)];exact q,fun b u xs q=>by rw[aj (hm b _ q fun z=>z)];exact q,fun b ps q=>⟨#[],by rw[aj (hm b _ q fun z=>z),q];simp⟩⟩
 by_cases hbe:b=e
 ·subst hbe;exact Eb
 ·exact⟨u,k b u hbe q⟩
end
noncomputable def Il (h:Heap)(H:Hp):List Addr:=(We h.objs.size).filter fun a=>(H a).isSome
noncomputable def nG (h:Heap)(H:Hp):Heap:=PySem.W.hideAll h (Il h H)
theorem vC (h:Heap)(H:Hp):(nG h H).objs.size=h.objs.size:=PySem.W.hideAll_size _ _
theorem kU {h:Heap}{H:Hp}{b:Addr}{o:Obj}(e:h.get? b=some o)(n:H b=none):(nG h H).get? b=some o:=
 PySem.W.hideAll_get _ e fun hm=>by
  have q:(H b).isSome=true:=(Wg.mp hm).2
  rw[n] at q;simp at q
theorem AH {h:Heap}{H:Hp}{b:Addr}{o:Obj}(e:(nG h H).get? b=some o):h.get? b=some o/\H b=none:=by
 have e':h.get? b=some o:=PySem.W.of_hideAll (Il h H) e
 refine⟨e',?_⟩
 cases q:H b with
 | none=>rfl
 | some x=>
  have hm:b∈Il h H:=Wg.mpr ⟨Wr.mpr (Jk e'),by simp[q]⟩
  have z:(nG h H).get? b=none:=PySem.W.hideAll_none (Il h H) hm
  rw[z] at e;cases e
structure Mod (K:Jc)(mg:Str->Option Value)(base:Heap):Prop where
 kin:K.In base
 glob:base.Ns mainGlobals mg
 blt:∃mb,base.Ns builtinsNs mb/\∀x:Str,x ≠ "__name__" -> mb x=bootBuiltins x
 nolimit:base.NoLimit
structure Cx where
 prog:Program
 w:World
 K:Jc
 mg:Str->Option Value
 base:Heap
 A:Around
 N:List Str
 s₀:Shared
 H₀:Hp
 env:Env
 outer:List Env
 stack:List Env
 ex:List Addr
 fn:Str->Bool
 calm:Bool
 pn:List (Addr×Obj)
 xe:Value->Shared->Prop
noncomputable def m5 (l:List Env):List Addr:=l.filterMap (·.frame)
noncomputable abbrev Cx.fs (X:Cx):List Addr:=m5 X.outer
def GN (sc:Scope)(x:Str):Prop:=sc.names.lookup x=some .local∨sc.names.lookup x=some .cell∨sc.names.lookup x=some .free
def Loc (sc:Scope)(x:Str):Prop:=sc.names.lookup x=some .local∨sc.names.lookup x=some .cell
def Look (env:Env)(h:Heap)(m:Str->Option Value)(x:Str)(u:Value):Prop:=
 (env.kindOf x=some .local/\m x=some u)∨((env.kindOf x=some .cell∨env.kindOf x=some .free)/\∃c,env.cells.lookup x=some c/\h.IsCell c (some u))
structure Cx.Ok (X:Cx):Prop where
 mod:Mod X.K X.mg X.base
 kind:X.env.scope.kind = .function
 glob:X.env.globals=mainGlobals
 blt:X.env.builtins=builtinsNs
 above:X.s₀.heap.objs.size<=X.env.locals
 inj:∀x y c,X.env.cells.lookup x=some c->X.env.cells.lookup y=some c->x=y
 has:∀x,(X.env.kindOf x=some .cell∨X.env.kindOf x=some .free)->∃c,X.env.cells.lookup x=some c
 cab:∀x c,X.fn x=true->X.env.cells.lookup x=some c->X.s₀.heap.objs.size<=c
 hd:X.calm=true->X.A.handled=none
 frames:X.A.frames=some X.stack
 stk:X.stack=X.outer∨(X.stack=X.env::X.outer/\X.env.frame=some X.env.locals)
 exf:∀b∈X.ex,b≠X.env.locals/\∀x c,X.env.cells.lookup x=some c->c≠b
 bs:∀b o,X.base.get? b=some o->X.s₀.heap.get? b=some o/\X.H₀ b=none
 bsz:X.base.objs.size<=X.s₀.heap.objs.size
 noex:∀b o,X.base.get? b=some o->b∉X.ex
 exfs:∀b∈X.ex,b∉X.fs
 jF:X.s₀.heap.FunFrames X.base X.outer
 wj:∀b∈X.fs,X.H₀ b=none
structure Inv (X:Cx)(pins:List (Addr×Obj))(σ:List (Option V))(H:Hp)(s:Shared):Prop where
 ok:X.Ok
 os:s.os=X.s₀.os
 bare:AllBare s.gens
 base:Un X.fs X.ex X.H₀ H X.s₀.heap s.heap
 loc:∃m,s.heap.Ns X.env.locals m/\∀(i:Nat) (x:Str) (v:V),X.N[i]? = some x -> σ[i]? = some (some v)->GN X.env.scope x->∃u,RelV v u/\Look X.env s.heap m x u
 cell:∀x c,X.env.cells.lookup x=some c->∃v,s.heap.IsCell c v
 free:H X.env.locals=none
 freeC:∀x c,X.env.cells.lookup x=some c->H c=none
 pin:∀p∈X.pn++pins,s.heap.get? p.1=some p.2/\H p.1=none/\p.1≠X.env.locals/\p.1∉X.fs/\∀v,p.2.data ≠ .cell v
 aR:fZ X.prog X.w H s.heap
 len: σ.length=X.N.length
section
variable {X:Cx}{pins:List (Addr×Obj)}{σ:List (Option V)}{H H':Hp}{s:Shared}{h':Heap}
theorem Cx.Ok.JH (ok:X.Ok){b:Addr}{o:Obj}(e:X.base.get? b=some o):b∉X.fs:=fun hb=>by
 have:=(ok.jF.mem hb).1
 rw[e] at this;cases this
theorem Inv.bs (I:Inv X pins σ H s):∀b o,X.base.get? b=some o->s.heap.get? b=some o/\H b=none:=fun b o e=>
 ⟨I.base.keep b o (I.ok.bs b o e).1 (I.ok.bs b o e).2 (I.ok.JH e) (I.ok.noex b o e),I.base.free b o (I.ok.bs b o e).1 (I.ok.bs b o e).2 (I.ok.noex b o e)⟩
theorem Inv.bk (I:Inv X pins σ H s):∀b o,X.base.get? b=some o->s.heap.get? b=some o:=fun b o e=>(I.bs b o e).1
theorem Inv.mod (I:Inv X pins σ H s):Mod X.K X.mg X.base:=I.ok.mod
theorem Inv.mH (I:Inv X pins σ H s):X.K.In s.heap:=I.ok.mod.kin.keeps I.bk
theorem Inv.lt (I:Inv X pins σ H s):X.env.locals<s.heap.objs.size:=let ⟨_,hn,_⟩:=I.loc;hn.lt
theorem Inv.sz (I:Inv X pins σ H s):X.s₀.heap.objs.size<=s.heap.objs.size:=Ju I.ok.above (Uy I.lt)
theorem Inv.EF (I:Inv X pins σ H s){a:Addr}(h:s.heap.objs.size<=a):a∉X.fs:=fun hb=>by
 obtain⟨_,o,ho,_⟩:=I.ok.jF.mem hb
 exact absurd (Jv (Jk ho) (Ju I.sz h)) (Ya _)
theorem Inv.DM (I:Inv X pins σ H s):∀x c,X.env.cells.lookup x=some c->c≠X.env.locals:=fun x c e z=>by
 obtain⟨v,o,ho,hd⟩:=I.cell x c e
 obtain⟨m,⟨o',es,ep,ho',hd',_⟩,_⟩:=I.loc
 rw[z,ho'] at ho;cases ho;rw[hd'] at hd;cases hd
theorem Inv.jF (I:Inv X pins σ H s):s.heap.FunFrames X.base X.outer:=by
 have all:∀(l:List Env),(∀b∈m5 l,b∈X.fs)->X.s₀.heap.FunFrames X.base l->s.heap.FunFrames X.base l:=by
  intro l
  induction l with
  | nil=>intro _ _;trivial
  | cons env r ih=>
   intro hs hl
   obtain⟨hk,⟨L,o,hf,hn,ho,hd⟩,hr⟩:=hl
   have hL:L∈X.fs:=hs L (by unfold m5;rw[List.filterMap_cons,hf];exact Js)
   obtain⟨sl,e⟩:=I.base.slot L o ho (I.ok.wj L hL) hL fun z=>I.ok.exfs L z hL
   exact⟨hk,⟨L,_,hf,hn,e,hd⟩,ih (fun b hb=>hs b (by unfold m5;rw[List.filterMap_cons,hf];exact Jq _ hb)) hr⟩
 exact all X.outer (fun _ hb=>hb) I.ok.jF
theorem Inv.stack (I:Inv X pins σ H s):s.heap.FunFrames X.base X.stack:=by
 rcases I.ok.stk with e|⟨e,hf⟩
 ·rw[e];exact I.jF
 ·rw[e]
  obtain⟨m,hn,_⟩:=I.loc
  refine .cons (by rw[I.ok.kind];decide) hf hn ?_ I.jF
  exact Heap.get?_none_of_le (Ju I.ok.bsz I.ok.above)
theorem Inv.oy (I:Inv X pins σ H s):∀b∈m5 X.stack,b∈X.env.locals::X.fs:=fun b hb=>by
 rcases I.ok.stk with e|⟨e,hf⟩
 ·rw[e] at hb;exact Jq _ hb
 ·rw[e] at hb
  unfold m5 at hb
  rw[List.filterMap_cons,hf] at hb
  exact hb
theorem Inv.uh (I:Inv X pins σ H s):∀b∈m5 X.stack,H b=none:=fun b hb=>by
 rcases J5.mp (I.oy b hb) with e|hb
 ·rw[e];exact I.free
 ·obtain⟨_,o,ho,_⟩:=I.ok.jF.mem hb
  exact I.base.free b o ho (I.ok.wj b hb) fun z=>I.ok.exfs b z hb
theorem Inv.step {g':Array GenState}{t':Nat}{d':Drawn}{ch:List Addr}(I:Inv X pins σ H s)
  (mw:∀b∈ch,(b∈X.ex∨X.s₀.heap.objs.size<=b)/\b≠X.env.locals/\(∀x c,X.env.cells.lookup x=some c->c≠b)/\∀p∈X.pn++pins,p.1≠b)
  (keep:∀b o,b≠X.env.locals->b∉X.fs->b∉ch->s.heap.get? b=some o->H b=none->h'.get? b=some o)
  (slot:∀b o,b≠X.env.locals->b∈X.fs->b∉ch->s.heap.get? b=some o->H b=none->∃sl,h'.get? b=some { o with slots:=sl }) (free:∀b o,b∉ch->s.heap.get? b=some o->H b=none->H' b=none)
  (there:∀b o,b∉ch->s.heap.get? b=some o->∃o',h'.get? b=some o')
  (gC:∀b xs,H b=some (.tup xs)->H' b=some (.tup xs)) (fB:∀b o u,H b=some (.frz o u)->H' b=some (.frz o u)) (gM:∀b ps,H b=some (.tbl ps)->∃more,H' b=some (.tbl (ps++more)))
  (ns:∀m,s.heap.Ns X.env.locals m->h'.Ns X.env.locals m) (aR:fZ X.prog X.w H' h') (hg:AllBare g') :
  Inv X pins σ H' { s with heap:=h',gens:=g',drawn:=d',toks:=t' }:=by
 have Oo:∀b o,X.s₀.heap.get? b=some o->b≠X.env.locals:=fun b o e=>Jz (Jv (Jk e) I.ok.above)
 have ID:∀b o,X.s₀.heap.get? b=some o->b∉X.ex->b∉ch:=fun b o e hx hb=>by
  rcases(mw b hb).1 with z|z
  ·exact hx z
  ·exact absurd (Jv (Jk e) z) (Ya _)
 have cellK:∀x c,X.env.cells.lookup x=some c->∀v,s.heap.IsCell c v->h'.IsCell c v:=fun x c e v ⟨o,ho,hd⟩=>by
  have Be:c∉ch:=fun z=>(mw c z).2.2.1 x c e rfl
  by_cases hc:c∈X.fs
  ·obtain⟨sl,q⟩:=slot c o (I.DM x c e) hc Be ho (I.freeC x c e)
   exact⟨_,q,hd⟩
  ·exact⟨o,keep c o (I.DM x c e) hc Be ho (I.freeC x c e),hd⟩
 refine⟨I.ok,I.os,hg,⟨fun b o e n hb hx =>?_,fun b o e n hb hx =>?_,fun b o e n hx =>?_,fun b o e hx =>?_,fun b xs e=>gC b xs (I.base.gC b xs e),fun b o xs e=>fB b o xs (I.base.fB b o xs e),fun b ps e =>?_⟩,?_,fun x c e =>?_,?_,fun x c e =>?_,fun p hp =>?_,aR,I.len⟩
 ·exact keep b o (Oo b o e) hb (ID b o e hx) (I.base.keep b o e n hb hx) (I.base.free b o e n hx)
 ·obtain⟨sl,e1⟩:=I.base.slot b o e n hb hx
  obtain⟨Gh,e2⟩:=slot b _ (Oo b o e) hb (ID b o e hx) e1 (I.base.free b o e n hx)
  exact⟨Gh,e2⟩
 ·obtain⟨o',e1⟩:=I.base.there b o e hx
  exact free b o' (ID b o e hx) e1 (I.base.free b o e n hx)
 ·obtain⟨o',e1⟩:=I.base.there b o e hx
  exact there b o' (ID b o e hx) e1
 ·obtain⟨m1,e1⟩:=I.base.gM b ps e
  obtain⟨m2,e2⟩:=gM b _ e1
  exact⟨m1++m2,by rw[e2,Array.append_assoc]⟩
 ·obtain⟨m,hn,hl⟩:=I.loc
  refine⟨m,ns m hn,fun i x v e1 e2 e3 =>?_⟩
  obtain⟨u,r,l⟩:=hl i x v e1 e2 e3
  refine⟨u,r,?_⟩
  rcases l with l|⟨k,c,e,z⟩
  ·exact .inl l
  ·exact .inr ⟨k,c,e,cellK x c e _ z⟩
 ·obtain⟨v,z⟩:=I.cell x c e
  exact⟨v,cellK x c e v z⟩
 ·obtain⟨m,⟨o,_,_,ho,_⟩,_⟩:=I.loc
  exact free _ o (fun z=>(mw _ z).2.1 rfl) ho I.free
 ·obtain⟨v,o,ho,hd⟩:=I.cell x c e
  exact free c o (fun z=>(mw c z).2.2.1 x c e rfl) ho (I.freeC x c e)
 ·obtain⟨e,n,ne,nf,d⟩:=I.pin p hp
  have Be:p.1∉ch:=fun z=>(mw p.1 z).2.2.2 p hp rfl
  exact⟨keep p.1 p.2 ne nf Be e n,free p.1 p.2 Be e n,ne,nf,d⟩
theorem Inv.un {t':Nat}(I:Inv X pins σ H s)(u:Un X.fs [] H H' s.heap h')(aR:fZ X.prog X.w H' h'):Inv X pins σ H' { s with heap:=h',toks:=t' }:=by
 obtain⟨m,⟨o,es,ep,ho,r⟩,_⟩:=id I.loc
 obtain⟨sl,hL⟩:=u.any ho I.free (by simp)
 exact I.step (g':=s.gens) (d':=s.drawn) (ch:=[]) (fun _ z=>nomatch z) (fun b o _ hb _ e n=>u.keep b o e n hb (by simp)) (fun b o _ hb _ e n=>u.slot b o e n hb (by simp)) (fun b o _ e n=>u.free b o e n (by simp)) (fun b o _ e=>u.there b o e (by simp)) u.gC u.fB u.gM (fun m' hm=>by
  obtain⟨o',es',ep',ho',r'⟩:=hm
  rw[ho] at ho';cases ho'
  exact⟨_,es',ep',hL,r'⟩) aR I.bare
theorem Inv.call {g':Array GenState}{t':Nat}{d':Drawn}{ch:List Addr}(I:Inv X pins σ H s)(u:Un (m5 X.stack) ch H H' s.heap h')(aR:fZ X.prog X.w H' h')(hg:AllBare g')
  (mw:∀b∈ch,(b∈X.ex∨X.s₀.heap.objs.size<=b)/\b≠X.env.locals/\(∀x c,X.env.cells.lookup x=some c->c≠b)/\∀p∈X.pn++pins,p.1≠b) :
  Inv X pins σ H' { s with heap:=h',gens:=g',drawn:=d',toks:=t' }:=by
 obtain⟨m,⟨o,es,ep,ho,r⟩,_⟩:=id I.loc
 obtain⟨sl,hL⟩:=u.any ho I.free fun z=>(mw _ z).2.1 rfl
 exact I.step (ch:=ch) mw (fun b o hL hb hc e n=>u.keep b o e n (fun z=>(J5.mp (I.oy b z)).elim hL hb) hc) (fun b o _ _ hc e n=>u.any e n hc) (fun b o hc e n=>u.free b o e n hc) (fun b o hc e=>u.there b o e hc) u.gC u.fB u.gM (fun m' hm=>by
  obtain⟨o',es',ep',ho',r'⟩:=hm
  rw[ho] at ho';cases ho'
  exact⟨_,es',ep',hL,r'⟩) aR hg
theorem Inv.turned {t':Nat}{it:Addr}(I:Inv X pins σ H s)(k:∀b o,b≠it->s.heap.get? b=some o->h'.get? b=some o)(hn:H it=none)(hL:it≠X.env.locals)
  (h1:it∈X.ex∨X.s₀.heap.objs.size<=it) (h2:∀x c,X.env.cells.lookup x=some c->c≠it) (h3:∀p∈X.pn++pins,p.1≠it):Inv X pins σ H { s with heap:=h',toks:=t' }:=by
 have NO:∀b u,H b=some u->b≠it:=fun b u e z=>by rw[z,hn] at e;cases e
 refine I.step (g':=s.gens) (d':=s.drawn) (ch:=[it]) (fun b hb =>?_) (fun b o _ _ hc e _=>k b o (fun z=>hc (by simp[z])) e) (fun b o _ _ hc e _=>⟨o.slots,k b o (fun z=>hc (by simp[z])) e⟩) (fun _ _ _ _ n=>n)
  (fun b o hc e=>⟨o,k b o (fun z=>hc (by simp[z])) e⟩) (fun _ _ e=>e) (fun _ _ _ e=>e) (fun b ps e=>⟨#[],by rw[e];simp⟩) (fun m hm =>?_) (fun b u e =>?_) I.bare
 ·have e:b=it:=by simpa using hb
  subst e
  exact⟨h1,hL,h2,h3⟩
 ·obtain⟨o,es,ep,ho,r⟩:=hm
  exact⟨o,es,ep,k _ o (Ne.symm hL) ho,r⟩
 ·refine(I.aR b u e).kM (fun c v hc q=>k c v ?_ q) (fun _ q=>q) fun _ _ q=>q
  rcases hc with z|z
  ·rw[z];exact NO b u e
  ·exact NO c _ z
theorem Inv.tok (I:Inv X pins σ H s)(t:Nat):Inv X pins σ H { s with toks:=t }:=I.un (h':=s.heap) (t':=t) Un.refl I.aR
theorem Inv.kept {t':Nat}(I:Inv X pins σ H s)(k:∀b u,s.heap.get? b=some u->h'.get? b=some u):Inv X pins σ H { s with heap:=h',toks:=t' }:=I.un (Un.kept k) (I.aR.kept k)
theorem Inv.laid {a:Addr}{o:HO}{t':Nat}(I:Inv X pins σ H s)(k:∀b u,s.heap.get? b=some u->h'.get? b=some u)(hp:s.heap.objs.size<=a)(new:bq X.prog X.w (upd H a o) h' a o):
  Inv X pins σ (upd H a o) { s with heap:=h',toks:=t' }:=I.un (Un.laid k hp (I.aR.fresh hp)) (I.aR.laid k hp new)
theorem Inv.write {x e:Addr}{o:HO}{t':Nat}(I:Inv X pins σ H s)(mu:EI (H x))(he:e=x∨H e=some (.own x))(k:∀b u,b≠e->s.heap.get? b=some u->h'.get? b=some u)(Eb:∃u,h'.get? e=some u)
  (new:bq X.prog X.w (upd H x o) h' x o):Inv X pins σ (upd H x o) { s with heap:=h',toks:=t' }:=I.un (Un.write mu he k Eb) (I.aR.write mu he k Eb new)
theorem Inv.weak {σ':List (Option V)}(I:Inv X pins σ H s)(hl: σ'.length = σ.length)(w:∀(i:Nat) v,σ'[i]? = some (some v) -> σ[i]? = some (some v)):Inv X pins σ' H s:=
 ⟨I.ok,I.os,I.bare,I.base,let ⟨m,hn,iK⟩:=I.loc; ⟨m,hn,fun i x v e1 e2 e3=>iK i x v e1 (w i v e2) e3⟩,I.cell,I.free,I.freeC,I.pin,I.aR,hl.trans I.len⟩
theorem Inv.j4 {BR:List (Addr×Obj)}(I:Inv X pins σ H s)(h:∀p∈BR,s.heap.get? p.1=some p.2/\H p.1=none/\p.1≠X.env.locals/\p.1∉X.fs/\∀v,p.2.data ≠ .cell v):Inv X BR σ H s:=
 ⟨I.ok,I.os,I.bare,I.base,I.loc,I.cell,I.free,I.freeC,fun p hp=>(Ji.mp hp).elim (fun z=>I.pin p (Jx _ z)) (h p),I.aR,I.len⟩
theorem qC {N:List Str}(hN:N.Nodup){i j:Nat}{x:Str}(a:N[i]? = some x)(b:N[j]? = some x):i=j:=by
 obtain⟨h1,e1⟩:=Jy.mp a
 obtain⟨h2,e2⟩:=Jy.mp b
 exact(List.getElem_inj hN).mp (e1.trans e2.symm)
theorem jE {M:Model}{A:Around}{E:Value->Shared->Prop}{i:Nat}{x:Str}{v:V}{u:Value}{Q:Unit->Shared->Prop}(I:Inv X pins σ H s)(hN:X.N.Nodup)(hi:X.N[i]? = some x)(hx:Loc X.env.scope x)(r:RelV v u)
  (h:∀s',Inv X pins (σ.set i (some v)) H s'->(∃a,U6 a s.heap s'.heap/\(a=X.env.locals∨X.env.cells.lookup x=some a))->Q () s') (hf:X.fn x=true∨X.env.scope.names.lookup x=some .local:=by first|exact .inl rfl|exact .inr rfl|assumption):wpAny M A (storeName X.env x u) Q E s:=by
 obtain⟨m,hn,hl⟩:=id I.loc
 have K1:(X.env.scope.kind == .class||(X.env.scope.kind == .module&&X.env.locals != X.env.globals))=false:=by rw[I.ok.kind];rfl
 have Ov:i < σ.length:=by rw[I.len];exact(Jy.mp hi).1
 have DM:=I.DM
 have tracked:∀{a:Addr} {h':Heap},(∃o,s.heap.get? a=some o/\H a=none)->U6 a s.heap h'->fZ X.prog X.w H h':=fun{a h'} ha hs b ob e=>by
  obtain⟨_,_,ud⟩:=ha
  refine(I.aR b ob e).kM (fun c w' hc q=>(hs.2 c ?_).trans q) (fun _ q=>q) fun _ _ q=>q
  rintro rfl
  rcases hc with rfl|hc
  ·rw[ud] at e;cases e
  ·rw[ud] at hc;cases hc
 rcases hx with hk|hk
 ·refine wpAny_storeName_local hk hn (fun h' hn' hs =>?_) K1
  obtain⟨oL,_,_,hoL,_⟩:=id hn
  refine h _ ⟨I.ok,I.os,I.bare,⟨fun b o e n hb hx =>?_,fun b o e n hb hx =>?_,I.base.free,fun b o e hx =>?_,I.base.gC,I.base.fB,I.base.gM⟩,⟨_,hn',fun j y v' e1 e2 e3 =>?_⟩,fun y c e =>?_,I.free,I.freeC,fun p hp =>?_,tracked ⟨oL,hoL,I.free⟩ hs,by simpa using I.len⟩ ⟨_,hs,.inl rfl⟩
  ·exact(hs.2 b (Jz (Jv (Jk e) I.ok.above))).trans (I.base.keep b o e n hb hx)
  ·obtain⟨sl,e1⟩:=I.base.slot b o e n hb hx
   exact⟨sl,(hs.2 b (Jz (Jv (Jk e) I.ok.above))).trans e1⟩
  ·obtain⟨o',e1⟩:=I.base.there b o e hx
   exact⟨o',(hs.2 b (Jz (Jv (Jk e) I.ok.above))).trans e1⟩
  ·by_cases hj:j=i
   ·subst hj
    rw[hi] at e1;cases e1
    rw[List.getElem?_set_self Ov] at e2
    cases e2
    exact⟨u,r,.inl ⟨hk,by simp⟩⟩
   ·rw[List.getElem?_set_ne (Ne.symm hj)] at e2
    obtain⟨u',r',q⟩:=hl j y v' e1 e2 e3
    refine⟨u',r',?_⟩
    rcases q with ⟨k,e⟩|⟨k,c,e,z⟩
    ·refine .inl ⟨k,?_⟩
     have:y≠x:=fun e=>hj (qC hN e1 (e▸hi))
     simp[this,e]
    ·exact .inr ⟨k,c,e,z.sameBut hs (DM y c e)⟩
  ·obtain⟨w',z⟩:=I.cell y c e
   exact⟨w',z.sameBut hs (DM y c e)⟩
  ·obtain⟨e,n,ne,nf,d⟩:=I.pin p hp
   exact⟨(hs.2 p.1 ne).trans e,n,ne,nf,d⟩
 ·have IY:X.fn x=true:=by
   rcases hf with z|z
   ·exact z
   ·rw[z] at hk;cases hk
  obtain⟨c,hc⟩:=I.ok.has x (.inl hk)
  obtain⟨w',z⟩:=I.cell x c hc
  refine wpAny_storeName_cell I.ok.kind hk hc z (fun h' jO hs =>?_)
  obtain⟨oc,hoc,hocd⟩:=id z
  refine h { s with heap:=h' } ⟨I.ok,I.os,I.bare,⟨fun b o e n hb hx =>?_,fun b o e n hb hx =>?_,I.base.free,fun b o e hx =>?_,I.base.gC,I.base.fB,I.base.gM⟩,⟨m,hn.sameBut hs (Ne.symm (DM x c hc)),fun j y v' e1 e2 e3 =>?_⟩,fun y c' e =>?_,I.free,I.freeC,fun p hp =>?_,tracked ⟨oc,hoc,I.freeC x c hc⟩ hs,by simpa using I.len⟩ ⟨c,hs,.inr hc⟩
  ·exact(hs.2 b (Jz (Jv (Jk e) (I.ok.cab x c IY hc)))).trans (I.base.keep b o e n hb hx)
  ·obtain⟨sl,e1⟩:=I.base.slot b o e n hb hx
   exact⟨sl,(hs.2 b (Jz (Jv (Jk e) (I.ok.cab x c IY hc)))).trans e1⟩
  ·obtain⟨o',e1⟩:=I.base.there b o e hx
   exact⟨o',(hs.2 b (Jz (Jv (Jk e) (I.ok.cab x c IY hc)))).trans e1⟩
  ·by_cases hj:j=i
   ·subst hj
    rw[hi] at e1;cases e1
    rw[List.getElem?_set_self Ov] at e2
    cases e2
    exact⟨u,r,.inr ⟨.inl hk,c,hc,jO⟩⟩
   ·rw[List.getElem?_set_ne (Ne.symm hj)] at e2
    obtain⟨u',r',q⟩:=hl j y v' e1 e2 e3
    refine⟨u',r',?_⟩
    rcases q with q|⟨k,c',e,z'⟩
    ·exact .inl q
    ·refine .inr ⟨k,c',e,z'.sameBut hs ?_⟩
     rintro rfl
     exact hj (qC hN e1 (I.ok.inj _ _ _ e hc▸hi))
  ·by_cases hcc:c'=c
   ·subst hcc;exact⟨_,jO⟩
   ·obtain⟨w2,z2⟩:=I.cell y c' e
    exact⟨w2,z2.sameBut hs hcc⟩
  ·obtain⟨e,n,ne,nf,d⟩:=I.pin p hp
   refine⟨(hs.2 p.1 ?_).trans e,n,ne,nf,d⟩
   intro q
   rw[q,hoc] at e
   have q':oc=p.2:=Option.some.inj e
   exact d w' (by rw[<-q'];exact hocd)
theorem iY {M:Model}{A:Around}{E:Value->Shared->Prop}{i:Nat}{x:Str}{v:V}{u:Value}{Q:Unit->Shared->Prop}(I:Inv X pins σ H s)(hN:X.N.Nodup)(hi:X.N[i]? = some x)(hx:Loc X.env.scope x)(r:RelV v u)
  (h:∀s',Inv X pins (σ.set i (some v)) H s'->Q () s') (hf:X.fn x=true∨X.env.scope.names.lookup x=some .local:=by first|exact .inl rfl|exact .inr rfl|assumption):wpAny M A (storeName X.env x u) Q E s:=
 jE I hN hi hx r (fun s' I' _=>h s' I') hf
theorem Inv.tI {s':Shared}{ch:List Addr}(I:Inv X pins σ H s)(ho:s'.os=s.os)(u:Un (m5 X.stack) ch H H' s.heap s'.heap)(aR:fZ X.prog X.w H' s'.heap)(hg:AllBare s'.gens)
  (mw:∀b∈ch,(b∈X.ex∨X.s₀.heap.objs.size<=b)/\b≠X.env.locals/\(∀x c,X.env.cells.lookup x=some c->c≠b)/\∀p∈X.pn++pins,p.1≠b):Inv X pins σ H' s':=by
 obtain⟨h',g',d',t',o'⟩:=s'
 have e:o'=s.os:=ho
 subst e
 exact I.call (g':=g') (t':=t') (d':=d') u aR hg mw
end
abbrev XK:=Value->Option Addr->Hp->Prop
noncomputable abbrev St:=List (Option V)
abbrev VK:=V->Hp->Prop
abbrev TE:=St->Hp->VK->Prop
abbrev TT:=St->Hp->(Bool->Hp->Prop)->Prop
abbrev TA:=St->Hp->(List V->Hp->Prop)->Prop
structure Ends where
 nx:St->Hp->Prop
 rt:VK
 bk:St->Hp->Prop:=fun _ _=>False
 ct:St->Hp->Prop:=fun _ _=>False
abbrev TS:=Ends->St->Hp->Prop
def EP (X:Cx)(pins:List (Addr×Obj))(σ:St)(Q:VK)(u:Value)(s':Shared):Prop:=bO fun v H'=>Inv X pins σ H' s'/\RelV v u/\Q v H'
def TP (X:Cx)(pins:List (Addr×Obj))(σ:St)(Q:Bool->Hp->Prop)(b:Bool)(s':Shared):Prop:=∃H',Inv X pins σ H' s'/\Q b H'
def AP (X:Cx)(pins:List (Addr×Obj))(σ:St)(Q:List V->Hp->Prop)(us:List Value)(s':Shared):Prop:=bO fun vs H'=>Inv X pins σ H' s'/\Vals vs us/\Q vs H'
instance KN {X:Cx} {pins:List (Addr×Obj)} {σ:St} {Q:VK} {u:Value} {s':Shared}:ae (EP X pins σ Q u s') (fun G=>∀v H',Inv X pins σ H' s'->RelV v u->Q v H'->G):=⟨fun⟨v,H',a,b,c⟩ _ k=>k v H' a b c⟩
instance Ls {X:Cx} {pins:List (Addr×Obj)} {σ:St} {Q:Bool->Hp->Prop} {b:Bool} {s':Shared}:ae (TP X pins σ Q b s') (fun G=>∀H',Inv X pins σ H' s'->Q b H'->G):=⟨fun⟨H',a,c⟩ _ k=>k H' a c⟩
instance K8 {X:Cx} {pins:List (Addr×Obj)} {σ:St} {Q:List V->Hp->Prop} {us:List Value} {s':Shared}:ae (AP X pins σ Q us s') (fun G=>∀vs H',Inv X pins σ H' s'->Vals vs us->Q vs H'->G):=⟨fun⟨v,H',a,b,c⟩ _ k=>k v H' a b c⟩
def SP (X:Cx)(pins:List (Addr×Obj))(D:Ends)(f:Flow)(s':Shared):Prop:=
 match f with
 | .next=>bO fun σ' H'=>Inv X pins σ' H' s'/\D.nx σ' H'
 | .brk=>bO fun σ' H'=>Inv X pins σ' H' s'/\D.bk σ' H'
 | .cont=>bO fun σ' H'=>Inv X pins σ' H' s'/\D.ct σ' H'
 | .ret u=>fq fun v σ' H'=>Inv X pins σ' H' s'/\RelV v u/\D.rt v H'
def PE (X:Cx)(e:Expr)(t:TE):Prop:=
 ∀ ⦃pins:List (Addr×Obj)⦄ (s:Shared) (σ:St) (H:Hp) (Q:VK),Inv X pins σ H s->t σ H Q->wpAny (model X.prog X.w) X.A (eval e X.env) (EP X pins σ Q) X.xe s
def PT (X:Cx)(e:Expr)(t:TT):Prop:=
 ∀ ⦃pins:List (Addr×Obj)⦄ (s:Shared) (σ:St) (H:Hp) (Q:Bool->Hp->Prop),Inv X pins σ H s->t σ H Q->wpAny (model X.prog X.w) X.A (isTrue e X.env (eval e X.env)) (TP X pins σ Q) X.xe s
def PW (X:Cx)(e:Expr)(t:TT):Prop:=
 ∀ ⦃whole:Sem Value⦄ ⦃pins:List (Addr×Obj)⦄ (s:Shared) (σ:St) (H:Hp) (Q:Bool->Hp->Prop),Inv X pins σ H s->t σ H Q->wpAny (model X.prog X.w) X.A (isTrue e X.env whole) (TP X pins σ Q) X.xe s
theorem PW.pt {X:Cx}{e:Expr}{t:TT}(h:PW X e t):PT X e t:=fun pins s σ H Q I q=>h s σ H Q I q
def PA (X:Cx)(es:List Expr)(t:TA):Prop:=
 ∀ ⦃pos:Pos⦄ ⦃pins:List (Addr×Obj)⦄ (s:Shared) (σ:St) (H:Hp) (Q:List V->Hp->Prop),Inv X pins σ H s->t σ H Q->wpAny (model X.prog X.w) X.A (spliced (backTo pos (starEach es X.env))) (AP X pins σ Q) X.xe s
def PS (X:Cx)(st:Stmt)(t:TS):Prop:=
 ∀ ⦃pins:List (Addr×Obj)⦄ (s:Shared) (σ:St) (H:Hp) (D:Ends),Inv X pins σ H s->t D σ H->wpAny (model X.prog X.w) X.A (exec st X.env) (SP X pins D) X.xe s
def tK (X:Cx)(st:List Stmt)(t:TS):Prop:=
 ∀ ⦃pins:List (Addr×Obj)⦄ (s:Shared) (σ:St) (H:Hp) (D:Ends),Inv X pins σ H s->t D σ H->wpAny (model X.prog X.w) X.A (execs st X.env) (SP X pins D) X.xe s
theorem aZ {α:Type}{t:Sem α}{Q Q': α->Shared->Prop}{M:Model}{A:Around}{E:Value->Shared->Prop}{s:Shared}(h:wpAny M A t Q E s)(hQ:∀a s,Q a s->Q' a s):wpAny M A t Q' E s:=wpAny_mono h hQ fun _ _ x=>x
section
variable {X:Cx}
def wx (i:Nat):TE:=fun σ H Q=>∃v,σ[i]? = some (some v)/\Q v H
def tC (v:V):TE:=fun _ H Q=>Q v H
theorem B5 {i:Nat}{x:Str}{pos:Pos}(hN:X.N[i]? = some x)(hv:GN X.env.scope x)(hd:(x==("__debug__" : Str))=false:=by decide)(qx:(x==("__classdict__" : Str))=false:=by decide):PE X (.Name x pos) (wx i):=by
 intro pins s σ H Q I h
 obtain⟨v,e,h⟩:=h
 obtain⟨m,hn,hl⟩:=I.loc
 obtain⟨u,r,l⟩:=hl i x v hN e hv
 have fin:EP X pins σ Q u s:=⟨v,H,I,r,h⟩
 rcases l with ⟨hk,hm⟩|⟨hk,c,hc,hcell⟩
 ·exact wpAny_Name (wpAny_loadName_local I.ok.kind hk hn hm fin) hd
 ·rcases hk with hk|hk
  ·exact wpAny_Name (wpAny_loadName_cell I.ok.kind hk hc hcell fin) hd
  ·exact wpAny_Name (wpAny_loadName_free I.ok.kind hk hc hcell fin qx) hd
theorem aw {i j pos}:PE X (.Constant (.int i) j pos) (tC (.int i)):=fun _ _ _ H _ I h=>wpAny_Constant_int ⟨.int i,H,I.tok _,⟨_,rfl⟩,h⟩
theorem ee {b j pos}:PE X (.Constant (.bool b) j pos) (tC (.bl b)):=fun _ _ _ H _ I h=>Constant_bool ⟨.bl b,H,I,rfl,h⟩
theorem d7 {j pos}:PE X (.Constant .none j pos) (tC .non):=fun _ _ _ H _ I h=>Constant_none ⟨.non,H,I,rfl,h⟩
theorem bf {x j pos}:PE X (.Constant (.str x) j pos) (tC (.str x)):=fun _ _ _ H _ I h=>Calls.Constant_str ⟨.str x,H,I.tok _,⟨_,rfl⟩,h⟩
def Gl (X:Cx)(x:Str):Prop:=X.env.kindOf x=some .globalImplicit
theorem tj {E:Value->Shared->Prop}{pins:List (Addr×Obj)}{s:Shared}{σ:St}{H:Hp}{x:Str}{u:Value}{pos:Pos}{Q:Value->Shared->Prop}(I:Inv X pins σ H s)(hg:Gl X x)(hm:X.mg x=some u)(h:Q u s)
  (hd:(x==("__debug__" : Str))=false:=by decide):wpAny (model X.prog X.w) X.A (eval (.Name x pos) X.env) Q E s:=
 Calls.Name_function_global I.ok.kind hg (Calls.loadGlobal_global (by rw[I.ok.glob];exact I.mod.glob.keeps I.bk) hm h) hd
theorem fW {E:Value->Shared->Prop}{pins:List (Addr×Obj)}{s:Shared}{σ:St}{H:Hp}{x:Str}{u:Value}{pos:Pos}{Q:Value->Shared->Prop}(I:Inv X pins σ H s)(hg:Gl X x)(hm:X.mg x=none)(hv:bootBuiltins x=some u)(h:Q u s)
  (hn:x ≠ "__name__":=by decide) (hd:(x==("__debug__" : Str))=false:=by decide):wpAny (model X.prog X.w) X.A (eval (.Name x pos) X.env) Q E s:=by
 obtain⟨mb,h1,h2⟩:=I.mod.blt
 exact Calls.Name_function_global I.ok.kind hg (Calls.loadGlobal_builtin (by rw[I.ok.glob];exact I.mod.glob.keeps I.bk) hm (by rw[I.ok.blt];exact h1.keeps I.bk) ((h2 x hn).trans hv) h) hd
theorem tE {x:Str}{v:V}{u:Value}{pos:Pos}(hg:Gl X x)(hm:X.mg x=some u)(r:RelV v u)(hd:(x==("__debug__" : Str))=false:=by decide):PE X (.Name x pos) (tC v):=
 fun _ _ _ H _ I h=>tj I hg hm ⟨v,H,I,r,h⟩ hd
theorem bJ {x:Str}{v:V}{u:Value}{pos:Pos}(hg:Gl X x)(hm:X.mg x=none)(hv:bootBuiltins x=some u)(r:RelV v u)(hn:x ≠ "__name__":=by decide)(hd:(x==("__debug__" : Str))=false:=by decide):PE X (.Name x pos) (tC v):=
 fun _ _ _ H _ I h=>fW I hg hm hv ⟨v,H,I,r,h⟩ hn hd
variable {a b:Expr}{ta tb:TE}{pos:Pos}
def PC (X:Cx)(op:CmpOp)(a b:Expr)(t:TE):Prop:=
 ∀ ⦃pins:List (Addr×Obj)⦄ (s:Shared) (σ:St) (H:Hp) (Q:VK),Inv X pins σ H s->t σ H Q ->
  wpAny (model X.prog X.w) X.A (eval a X.env) (fun v s₁=>wpAny (model X.prog X.w) X.A (eval b X.env) (fun u s₂=>wpAny (model X.prog X.w) X.A (compareOp op v u) (EP X pins σ Q) X.xe s₂) X.xe s₁) X.xe s
def tB (t:TE):TT:=fun σ H Q=>t σ H fun x H1=>∃c,x = .bl c/\Q c H1
theorem oN {op:CmpOp}{t:TE}(h:PC X op a b t)(h1:behindInMarks op b=false:=by first|exact nobehind _ (by decide) (by decide)|rfl):PE X (.Compare a [op] [b] pos) t:=fun pins s σ H Q I hw=>wpAny_Compare1 (h s σ H Q I hw) h1
theorem jI {op:CmpOp}{t:TE}(h:PC X op a b t)(h1:behindInMarks op b=false:=by first|exact nobehind _ (by decide) (by decide)|rfl):PT X (.Compare a [op] [b] pos) (tB t):=by
 intro pins s σ H Q I hw
 refine wpAny_isTrue_Compare1 (aZ (h s σ H _ I hw) fun v s1 h1=>aZ h1 fun u s2 h2=>aZ h2 fun c s3 hz_=>ae.el hz_ _ fun x H1 I1 r1 q1 =>?_) h1
 obtain⟨d,rfl,q⟩:=q1
 cases r1
 exact wpAny_truthy_bool ⟨H1,I1,q⟩
theorem dc {e:Expr}{t:TE}(h:PE X e t)(he:∀whole,isTrue e X.env whole=(do let v <-whole;standAt e.pos;holding [v] (truthy v)):=by intro _;rfl):PT X e (tB t):=by
 intro pins s σ H Q I hw
 refine isTrue_plain (aZ (h s σ H _ I hw) fun v s1 hz_=>ae.el hz_ _ fun x H1 I1 r1 q1 =>?_) (he _)
 obtain⟨d,rfl,q⟩:=q1
 cases r1
 exact wpAny_truthy_bool ⟨H1,I1,q⟩
variable {tA IB:TT}{rest:List Expr}
def JL (t u:TT):TT:=fun σ H Q=>t σ H fun c H1=>if c=true then u σ H1 Q else Q false H1
def Rn (t u:TT):TT:=fun σ H Q=>t σ H fun c H1=>if c=true then Q true H1 else u σ H1 Q
def Mr (t:TT):TT:=fun σ H Q=>t σ H fun c H1=>Q (!c) H1
theorem hX (ha:PT X a tA):PW X (.BoolOp .And [a] pos) tA:=by
 intro wh pins s σ H Q I h
 refine isTrue_and (aZ (ha s σ H Q I h) fun c s1 e =>?_)
 cases c with
 | true=>exact isTrue_and_nil e
 | false=>exact e
theorem oK (ha:PT X a tA):PW X (.BoolOp .Or [a] pos) tA:=by
 intro wh pins s σ H Q I h
 refine isTrue_or (aZ (ha s σ H Q I h) fun c s1 e =>?_)
 cases c with
 | false=>exact isTrue_or_nil e
 | true=>exact e
theorem jj (ha:PT X a tA)(hb:PW X (.BoolOp .And (b::rest) pos) IB):PW X (.BoolOp .And (a::b::rest) pos) (JL tA IB):=by
 intro wh pins s σ H Q I h
 refine isTrue_and (aZ (ha s σ H _ I h) fun c s1 hz_ =>?_)
 refine ae.el hz_ _ ?_
 clear hz_
 rintro H1 I1 q1
 cases c with
 | true=>exact hb s1 σ H1 Q I1 q1
 | false=>exact⟨H1,I1,q1⟩
theorem tV (ha:PT X a tA)(hb:PW X (.BoolOp .Or (b::rest) pos) IB):PW X (.BoolOp .Or (a::b::rest) pos) (Rn tA IB):=by
 intro wh pins s σ H Q I h
 refine isTrue_or (aZ (ha s σ H _ I h) fun c s1 hz_ =>?_)
 refine ae.el hz_ _ ?_
 clear hz_
 rintro H1 I1 q1
 cases c with
 | true=>exact⟨H1,I1,q1⟩
 | false=>exact hb s1 σ H1 Q I1 q1
theorem kD (ha:PT X a tA):PT X (.UnaryOp .Not a pos) (Mr tA):=by
 intro pins s σ H Q I h
 exact isTrue_not (ha s σ H (fun c H1=>Q (!c) H1) I h)
def EW (ta tb:TE):TE:=fun σ H Q=>ta σ H fun x H1=>∃c,x = .bl c/\if c=true then tb σ H1 Q else Q (.bl false) H1
def Gz (ta:TE):TE:=fun σ H Q=>ta σ H fun x H1=>∃c,x = .bl c/\Q (.bl (!c)) H1
theorem gW {op}{t:TE}(h:PE X a t):PE X (.BoolOp op [a] pos) t:=fun pins s σ H Q I hw=>BoolOp_one (h s σ H Q I hw)
theorem eU (ha:PE X a ta)(hb:PE X (.BoolOp .And (b::rest) pos) tb):PE X (.BoolOp .And (a::b::rest) pos) (EW ta tb):=by
 intro pins s σ H Q I h
 refine BoolOp_and (aZ (ha s σ H _ I h) fun v s1 hz_ =>?_)
 refine ae.el hz_ _ ?_
 clear hz_
 rintro x H1 I1 r1 q1
 obtain⟨c,rfl,q1⟩:=q1
 cases r1
 refine wpAny_truthy_bool ?_
 cases c with
 | true=>exact hb s1 σ H1 Q I1 q1
 | false=>exact⟨.bl false,H1,I1,rfl,q1⟩
theorem yq (ha:PE X a ta):PE X (.UnaryOp .Not a pos) (Gz ta):=by
 intro pins s σ H Q I h
 refine UnaryOp_ (aZ (ha s σ H _ I h) fun v s1 hz_ =>?_)
 refine ae.el hz_ _ ?_
 clear hz_
 rintro x H1 I1 r1 q1
 obtain⟨c,rfl,q1⟩:=q1
 cases r1
 exact not_of (wpAny_truthy_bool ⟨.bl (!c),H1,I1,rfl,q1⟩)
def HL (t:TT)(ta tb:TE):TE:=fun σ H Q=>t σ H fun c H1=>if c=true then ta σ H1 Q else tb σ H1 Q
theorem dP {c:Expr}(hc:PT X c tA)(ha:PE X a ta)(hb:PE X b tb):PE X (.IfExp c a b pos) (HL tA ta tb):=by
 intro pins s σ H Q I h
 refine wpAny_IfExp (aZ (hc s σ H _ I h) fun d s1 hz_ =>?_)
 refine ae.el hz_ _ ?_
 clear hz_
 rintro H1 I1 q1
 cases d with
 | true=>exact ha s1 σ H1 Q I1 q1
 | false=>exact hb s1 σ H1 Q I1 q1
end
def aD (K:Jc)(H:Hp)(a:Addr)(xs:List V):Prop:=
 Rd H a (.lst xs) ∨
  fq fun(o:Obj) (az:Array Value) (n:Nat)=>K.lookup a=some o/\o.cls = .type "list" /\ o.dict=none/\o.data = .seq az n/\az.size<=sizeLine/\Vals xs az.toList
def fw (K:Jc)(H:Hp)(a:Addr)(xs:List V):Prop:=
 Rd H a (.tup xs) ∨
  fq fun(o:Obj) (az:Array Value) (n:Nat)=>K.lookup a=some o/\o.cls = .type "tuple" /\ o.data = .seq az n/\az.size<=sizeLine/\Vals xs az.toList
noncomputable def L3:Value->Option V
 | .none=>some .non
 | .bool b=>some (.bl b)
 | .int i _=>some (.int i)
 | .str x _=>some (.str x)
 | .bytes b _=>some (.byt b)
 | .float b _=>some (.flt b)
 | .ref a=>some (.ref a)
 | .type n=>some (.ty n)
 | _=>none
theorem RelV.abs {x:V}{u:Value}(r:RelV x u):L3 u=some x:=by
 cases x with
 | non=>cases r;rfl
 | bl _=>cases r;rfl
 | int _=>obtain⟨t,rfl⟩:=r;rfl
 | str _=>obtain⟨t,rfl⟩:=r;rfl
 | byt _=>obtain⟨t,rfl⟩:=r;rfl
 | flt _=>obtain⟨t,rfl⟩:=r;rfl
 | ref _=>cases r;rfl
 | ty _=>cases r;rfl
theorem RelV.inj {x y:V}{u:Value}(r:RelV x u)(q:RelV y u):x=y:=Option.some.inj (r.abs.symm.trans q.abs)
theorem Vals.inj {xs ys:List V}{us:List Value}(h:Vals xs us)(h':Vals ys us):xs=ys:=by
 induction h generalizing ys with
 | nil=>cases h';rfl
 | cons r t ih=>cases h' with|cons r' t'=>rw[RelV.inj r r',ih t']
section
variable {X:Cx}{pins:List (Addr×Obj)}{σ:St}{H:Hp}{s:Shared}{a:Addr}{xs ys:List V}
theorem aD.of {K:Jc}(h:H a=some (.lst xs)):aD K H a xs := .inl (.inl h)
theorem fw.of {K:Jc}(h:H a=some (.tup xs)):fw K H a xs := .inl (.inl h)
theorem Inv.list (I:Inv X pins σ H s)(h:aD X.K H a xs):∃az:List Value,Vals xs az/\PlainL s.heap a az.toArray/\xs.length<=sizeLine:=by
 rcases h with h|⟨o,az,n,hk,hc,hd,hs,hz,r⟩
 ·obtain⟨z,az,n,r,e⟩:=h.ok I.aR
  exact⟨az,r,⟨_,n,e,rfl,rfl,rfl⟩,z⟩
 ·refine⟨az.toList,r,⟨o,n,I.mH a o hk,hc,hd,by simpa using hs⟩,?_⟩
  have e:=r.length
  simp only[Jw] at e
  omega
theorem Inv.tuple (I:Inv X pins σ H s)(h:fw X.K H a xs):∃az:List Value,Vals xs az/\IsTup s.heap a az.toArray/\xs.length<=sizeLine:=by
 rcases h with h|⟨o,az,n,hk,hc,hs,hz,r⟩
 ·obtain⟨z,az,r,p⟩:=h.ok I.aR
  exact⟨az,r,p,z⟩
 ·refine⟨az.toList,r,⟨o,I.mH a o hk,hc,n,by simpa using hs⟩,?_⟩
  have e:=r.length
  simp only[Jw] at e
  omega
theorem Inv.pV (I:Inv X pins σ H s)(h:aD X.K H a xs)(h':aD X.K H a ys):xs=ys:=by
 obtain⟨az,r,⟨o,n,e,_,_,d⟩,_⟩:=I.list h
 obtain⟨its',r',⟨o',n',e',_,_,d'⟩,_⟩:=I.list h'
 rw[e] at e';cases e'
 rw[d] at d'
 injection d' with d1 _
 have:az=its':=by simpa using congrArg Array.toList d1
 subst this
 exact r.inj r'
theorem Inv.uR (I:Inv X pins σ H s)(h:fw X.K H a xs)(h':fw X.K H a ys):xs=ys:=by
 obtain⟨az,r,⟨o,e,_,n,d⟩,_⟩:=I.tuple h
 obtain⟨its',r',⟨o',e',_,n',d'⟩,_⟩:=I.tuple h'
 rw[e] at e';cases e'
 rw[d] at d'
 injection d' with d1 _
 have:az=its':=by simpa using congrArg Array.toList d1
 subst this
 exact r.inj r'
end
noncomputable abbrev Cx.lh (X:Cx)(E:Value->Shared->Prop):Cx:={ X with xe:=E }
noncomputable abbrev Cx.CQ (X:Cx):Cx:=X.lh fun _ _=>False
theorem Cx.Ok.lh {X:Cx}(ok:X.Ok)(E:Value->Shared->Prop):(X.lh E).Ok:=
 ⟨ok.mod,ok.kind,ok.glob,ok.blt,ok.above,ok.inj,ok.has,ok.cab,ok.hd,ok.frames,ok.stk,ok.exf,ok.bs,ok.bsz,ok.noex,ok.exfs,ok.jF,ok.wj⟩
theorem Cx.Ok.gZ {X:Cx}{E:Value->Shared->Prop}(ok:(X.lh E).Ok):X.Ok:=
 ⟨ok.mod,ok.kind,ok.glob,ok.blt,ok.above,ok.inj,ok.has,ok.cab,ok.hd,ok.frames,ok.stk,ok.exf,ok.bs,ok.bsz,ok.noex,ok.exfs,ok.jF,ok.wj⟩
section
variable {X:Cx}{pins:List (Addr×Obj)}{σ:St}{H:Hp}{s:Shared}{E:Value->Shared->Prop}
theorem Inv.lh (I:Inv X pins σ H s)(E:Value->Shared->Prop):Inv (X.lh E) pins σ H s:=⟨I.ok.lh E,I.os,I.bare,I.base,I.loc,I.cell,I.free,I.freeC,I.pin,I.aR,I.len⟩
theorem Inv.gZ (I:Inv (X.lh E) pins σ H s):Inv X pins σ H s:=⟨I.ok.gZ,I.os,I.bare,I.base,I.loc,I.cell,I.free,I.freeC,I.pin,I.aR,I.len⟩
theorem SP.gZ {D:Ends}{f:Flow}{s':Shared}(h:SP (X.lh E) pins D f s'):SP X pins D f s':=by
 cases f with
 | next=>obtain⟨σ',H',I,q⟩:=h;exact⟨σ',H',I.gZ,q⟩
 | brk=>obtain⟨σ',H',I,q⟩:=h;exact⟨σ',H',I.gZ,q⟩
 | cont=>obtain⟨σ',H',I,q⟩:=h;exact⟨σ',H',I.gZ,q⟩
 | ret u=>obtain⟨v,σ',H',I,r,q⟩:=h;exact⟨v,σ',H',I.gZ,r,q⟩
theorem tK.CQ {st:List Stmt}{t:TS}(h:tK X.CQ st t):tK X st t:=fun pins s σ H D I hw=>
 wpAny_mono (h s σ H D (I.lh _) hw) (fun _ _ q=>q.gZ) fun _ _ z=>False.elim z
end
section
variable {X:Cx}{st:Stmt}{rest:List Stmt}{t u:TS}{e:Expr}{te:TE}{pos:Pos}
def qF:TS:=fun D σ H=>D.nx σ H
def uQ (t u:TS):TS:=fun D σ H=>t { D with nx:=u D } σ H
theorem ba:tK X [] qF:=fun _ _ σ H _ I h=>wpAny_execs_nil ⟨σ,H,I,h⟩
theorem ah (h1:PS X st t)(h2:tK X rest u):tK X (st::rest) (uQ t u):=by
 intro pins s σ H D I h
 refine wpAny_execs_cons (aZ (h1 s σ H { D with nx:=u D } I h) fun f s1 q =>?_)
 cases f with
 | next=>
  obtain⟨σ',H',I',q⟩:=q
  exact h2 s1 σ' H' D I' q
 | ret v=>exact q
 | brk=>exact q
 | cont=>exact q
theorem ao (h1:PS X st t):tK X [st] t:=by
 intro pins s σ H D I h
 refine wpAny_execs_cons (aZ (h1 s σ H D I h) fun f s1 q =>?_)
 cases f with
 | next=>exact wpAny_execs_nil q
 | ret v=>exact q
 | brk=>exact q
 | cont=>exact q
theorem Inv.quiet {pins:List (Addr×Obj)}{σ:St}{H:Hp}{s:Shared}(I:Inv X pins σ H s):interactive X.env=false:=by simp[interactive,I.ok.kind]
def Ge (te:TE):TS:=fun D σ H=>te σ H fun _ H1=>D.nx σ H1
theorem cX (he:PE X e te)(hs:swapsWith e none pos.line X.env=pure false:=by rfl):PS X (.Expr e pos) (Ge te):=by
 intro pins s σ H D I h
 exact wpAny_Expr_any (aZ (he s σ H _ I h) fun v s1 hz_=>ae.el hz_ _ fun x H1 I1 r1 q1=>⟨σ,H1,I1,q1⟩) I.quiet hs
def LV (te:TE):TS:=fun D σ H=>te σ H D.rt
theorem aM (he:PE X e te):PS X (.Return (some e) pos) (LV te):=by
 intro pins s σ H D I h
 exact wpAny_Return_some (aZ (he s σ H _ I h) fun v s1 hz_=>ae.el hz_ _ fun x H1 I1 r1 q1=>⟨x,σ,H1,I1,r1,q1⟩)
def uJ (c:TT)(t u:TS):TS:=fun D σ H=>c σ H fun b H1=>if b=true then t D σ H1 else u D σ H1
theorem cb {c:Expr}{a b:List Stmt}{tc:TT}(hc:PT X c tc)(ha:tK X a t)(hb:tK X b u):PS X (.If c a b pos) (uJ tc t u):=by
 intro pins s σ H D I h
 refine wpAny_If (aZ (hc s σ H _ I h) fun d s1 hz_ =>?_)
 refine ae.el hz_ _ ?_
 clear hz_
 rintro H1 I1 q1
 cases d with
 | true=>exact ha s1 σ H1 D I1 q1
 | false=>exact hb s1 σ H1 D I1 q1
end
abbrev TG:=V->St->Hp->(St->Hp->Prop)->Prop
abbrev u5:=List V->St->Hp->(St->Hp->Prop)->Prop
def PG (X:Cx)(target:Expr)(t:TG):Prop:=
 ∀ ⦃pins:List (Addr×Obj)⦄ (s:Shared) (σ:St) (H:Hp) (v:V) (u:Value) (Q:St->Hp->Prop),Inv X pins σ H s->RelV v u->t v σ H Q ->
  wpAny (model X.prog X.w) X.A (assign target X.env u) (fun _ s'=>bO fun σ' H'=>Inv X pins σ' H' s'/\Q σ' H') X.xe s
def EN (X:Cx)(ts:List Expr)(t:u5):Prop:=
 ∀ ⦃pins:List (Addr×Obj)⦄ (s:Shared) (σ:St) (H:Hp) (vs:List V) (us:List Value) (Q:St->Hp->Prop),Inv X pins σ H s->Vals vs us->t vs σ H Q ->
  wpAny (model X.prog X.w) X.A (assignInOrder ((assignEach ts X.env).map (·.2)) us) (fun _ s'=>bO fun σ' H'=>Inv X pins σ' H' s'/\Q σ' H') X.xe s
abbrev CL:=V->V->V->Hp->(Hp->Prop)->Prop
def FL (X:Cx)(t:CL):Prop:=
 ∀ ⦃pins:List (Addr×Obj)⦄ (s:Shared) (σ:St) (H:Hp) (o i v:V) (ov iv u:Value) (Q:Hp->Prop),Inv X pins σ H s->RelV o ov->RelV i iv->RelV v u->t o i v H Q ->
  wpAny (model X.prog X.w) X.A (setItem ov iv u) (fun _ s'=>∃H',Inv X pins σ H' s'/\Q H') X.xe s
section
variable {X:Cx}{pos:Pos}
def gU (i:Nat):TG:=fun v σ H Q=>Q (σ.set i (some v)) H
theorem ak {i:Nat}{x:Str}(hN:X.N.Nodup)(hi:X.N[i]? = some x)(hx:Loc X.env.scope x)(hf:X.fn x=true∨X.env.scope.names.lookup x=some .local:=by first|exact .inl rfl|exact .inr rfl|assumption):PG X (.Name x pos) (gU i):=by
 intro pins s σ H v u Q I r h
 exact wpAny_assign_Name (iY I hN hi hx r (fun s' I'=>⟨_,H,I',h⟩) hf)
noncomputable def DW:u5:=fun vs σ H Q=>vs=[]/\Q σ H
noncomputable def wL (t:TG)(u:u5):u5:=fun vs σ H Q=>bO fun v r=>vs=v::r/\t v σ H fun σ' H'=>u r σ' H' Q
theorem cB:EN X [] DW:=by
 intro pins s σ H vs us Q I r h
 obtain⟨e,h⟩:=h
 subst e
 cases r
 exact assignInOrder_nil ⟨σ,H,I,h⟩
theorem aJ {e:Expr}{es:List Expr}{t:TG}{u:u5}(h1:PG X e t)(h2:EN X es u)
  (hs:(assignEach (e::es) X.env).map (·.2)=assign e X.env::(assignEach es X.env).map (·.2):=by rfl):EN X (e::es) (wL t u):=by
 intro pins s σ H vs us Q I r h
 obtain⟨v,vr,e1,h⟩:=h
 subst e1
 cases r with
 | cons r rr=>
  rw[hs]
  refine assignInOrder_cons (aZ (h1 s σ H _ _ _ I r h) fun _ s1 hz_ =>?_)
  refine ae.el hz_ _ ?_
  clear hz_
  rintro σ1 H1 I1 q1
  exact h2 s1 σ1 H1 _ _ Q I1 rr q1
def DR (K:Jc)(n:Nat)(t:u5):TG:=fun v σ H Q=>bO fun a xs=>v = .ref a/\fw K H a xs/\xs.length=n/\t xs σ H Q
theorem Cg {es:List Expr}{k:Nat}{t:u5}{n:Nat}(hc:X.calm=true)(h:EN X es t)
  (hn:(assignEach es X.env).length=n:=by rfl) (i5:(assignEach es X.env).findIdx? (·.1)=none:=by rfl):PG X (.Tuple es k pos) (DR X.K n t):=by
 intro pins s σ H v u Q I r hw
 obtain⟨a,xs,e1,hq,hl,hw⟩:=hw
 subst e1
 cases r
 obtain⟨az,rv,ht,hz⟩:=I.tuple hq
 refine assign_Tuple_tuple (I.ok.hd hc) ht (by simp[hn,<-hl,rv.length]) i5 fun h' hx =>?_
 have I1:Inv X pins σ H { s with heap:=h' }:=I.kept (t':=s.toks) fun b o e=>hx b o (Jz (Jk e)) e
 exact h _ σ H xs _ Q I1 (by simpa using rv) hw
def KH (to ti:TE)(t:CL):TG:=fun v σ H Q=>to σ H fun o H1=>ti σ H1 fun i H2=>t o i v H2 fun H3=>Q σ H3
theorem C3 {o i:Expr}{to ti:TE}{t:CL}(ho:PE X o to)(hi:PE X i ti)(hs:FL X t)
  (ha:∀v,assign (.Subscript o i pos) X.env v=(do
   let ov <-holding [v] (eval o X.env)
   let iv <-holding [v,ov] (eval i X.env)
   standAt pos
   holding [v,ov,iv] (setItem ov iv v)
   release [v,ov,iv] []):=by intro _;rfl):PG X (.Subscript o i pos) (KH to ti t):=by
 intro pins s σ H v u Q I r h
 rw[ha]
 refine wpAny_bind (wpAny_holding (aZ (ho s σ H _ I h) fun ov s1 hz_ =>?_))
 refine ae.el hz_ _ ?_
 clear hz_
 rintro x H1 I1 r1 q1
 refine wpAny_bind (wpAny_holding (aZ (hi s1 σ H1 _ I1 q1) fun iv s2 hz_ =>?_))
 refine ae.el hz_ _ ?_
 clear hz_
 rintro y H2 I2 r2 q2
 refine wpAny_bind (wpAny_standAt (wpAny_bind (wpAny_holding (aZ (hs s2 σ H2 x y v ov iv u _ I2 r1 r2 r q2) fun _ s3 hz_ =>?_))))
 refine ae.el hz_ _ ?_
 clear hz_
 rintro H3 I3 q3
 exact wpAny_release ⟨σ,H3,I3,q3⟩
def uF (te:TE)(g:TG):TS:=fun D σ H=>te σ H fun x H1=>g x σ H1 D.nx
theorem oO {tg e:Expr}{te:TE}{g:TG}(he:PE X e te)(hg:PG X tg g)(hs:swapsWithSole [tg] e pos.line X.env=pure false:=by rfl)(hw:swappedStores [tg] e X.env=pure none:=by rfl)
  (h1:(assignEach [tg] X.env).map (·.2)=[assign tg X.env]:=by rfl):PS X (.Assign [tg] e pos) (uF te g):=by
 intro pins s σ H D I h
 refine wpAny_Assign_stores (aZ (he s σ H _ I h) fun v s1 hz_=>ae.el hz_ _ fun x H1 I1 r1 q1 =>?_) hs hw
 rw[h1]
 exact aZ (hg s1 σ H1 x v _ I1 r1 q1) fun _ s2 q=>q
theorem aL {i:Nat}{x:Str}{e:Expr}{te:TE}{pos':Pos}(hN:X.N.Nodup)(hi:X.N[i]? = some x)(hx:Loc X.env.scope x)(he:PE X e te)(hs:swapsWith e (some (.Name x pos')) pos.line X.env=pure false:=by rfl)(hf:X.fn x=true∨X.env.scope.names.lookup x=some .local:=by first|exact .inl rfl|exact .inr rfl|assumption):
  PS X (.Assign [.Name x pos'] e pos) (uF te (gU i)):=by
 intro pins s σ H D I h
 refine wpAny_Assign_Name (aZ (he s σ H _ I h) fun v s1 hz_=>ae.el hz_ _ fun y H1 I1 r1 q1 =>?_) hs
 exact iY I1 hN hi hx r1 (fun s2 I2=>⟨_,H1,I2,q1⟩) hf
def LS (i j:Nat)(ta:TA):TS:=fun D σ H=>ta σ H fun vs H1=>bO fun v w=>vs=[v,w]/\D.nx ((σ.set i (some v)).set j (some w)) H1
theorem Cf {i j:Nat}{x y:Str}{a b:Expr}{ta:TA}{px py pt:Pos}{kt k2 pt2}(hc:X.calm=true)(hN:X.N.Nodup)(hi:X.N[i]? = some x)(hj:X.N[j]? = some y)(ij:i≠j)
  (hx:X.env.scope.names.lookup x=some .local) (hy:X.env.scope.names.lookup y=some .local) (ha:PA X [a,b] ta)
  (hw:swappedStores [.Tuple [.Name x px,.Name y py] kt pt] (.Tuple [a,b] k2 pt2) X.env=pure (some [x,y]))
  (hs:swapsWithSole [.Tuple [.Name x px,.Name y py] kt pt] (.Tuple [a,b] k2 pt2) pos.line X.env=pure false:=by rfl) :
  PS X (.Assign [.Tuple [.Name x px,.Name y py] kt pt] (.Tuple [a,b] k2 pt2) pos) (LS i j ta):=by
 intro pins s σ H D I h
 rw[exec_Assign_arm]
 refine wpAny_bind (wpAny_standAt ?_)
 rw[hs]
 refine wpAny_bind (wpAny_pure ?_)
 rw[if_neg (by decide)]
 refine wpAny_bind (Tuple_ (aZ (ha s σ H _ I h) fun us s1 hz_ =>?_))
 refine ae.el hz_ _ ?_
 clear hz_
 rintro vs H1 I1 r1 q1
 obtain⟨v,w,e1,q1⟩:=q1
 subst e1
 obtain⟨u1,u2,rfl,rv,oU⟩:∃u1 u2,us=[u1,u2]/\RelV v u1/\RelV w u2:=by
  cases r1 with
  | cons p q=>
   cases q with
   | cons p' q'=>
    cases q'
    exact⟨_,_,rfl,p,p'⟩
 refine wpAny_newObj_type ?_ (by show 2<=sizeLine;decide)
 have I2:Inv X pins σ H1 { s1 with heap:=s1.heap.push { cls := .type "tuple",data := .seq [u1,u2].toArray } }:=I1.kept (t':=s1.toks) fun b o e=>Jb _ e
 rw[hw]
 refine wpAny_bind (wpAny_pure ?_)
 show wpAny (model X.prog X.w) X.A (do rule "assign.swapped-stores";let items <-unpackItems (.ref s1.heap.objs.size) 2 none;assignInOrder [fun v=>bindName X.env y v,fun v=>bindName X.env x v] items.reverse;pure Flow.next) _ _ _
 refine wpAny_bind (wpAny_rule (wpAny_bind (unpackItems_tuple (items := #[u1,u2]) (I.ok.hd hc) (IsTup.new s1.heap _) fun h' Hl =>?_)))
 have I3:=I2.kept (h':=h') (t':=s1.toks) fun b o e=>Hl b o (Jz (Jk e)) e
 show wpAny _ _ (assignInOrder [fun v=>bindName X.env y v,fun v=>bindName X.env x v] [u2,u1] >>= fun _=>pure Flow.next) _ _ _
 refine wpAny_bind (assignInOrder_cons (wpAny_bindName (iY I3 hN hj (.inl hy) oU (fun s2 I4 =>?_) (.inr hy))))
 refine assignInOrder_cons (wpAny_bindName (iY I4 hN hi (.inl hx) rv (fun s3 I5=>assignInOrder_nil (wpAny_pure ?_)) (.inr hx)))
 rw[List.set_comm _ _ (Ne.symm ij)] at I5
 exact⟨_,H1,I5,q1⟩
end
section
variable {X:Cx}{pos:Pos}
def gL (c:TT)(tb:TS):TS:=fun D σ H=>∃W:Nat->St->Hp->Prop,(∃m,W m σ H)/\∀m σ H,W m σ H ->
 c σ H fun b H1=>if b=true then ∃N:St->Hp->Prop,(∀ σ' H',N σ' H'->∃m',m'<m/\W m' σ' H')/\tb { D with nx:=N,ct:=N,bk:=D.nx } σ H1 else D.nx σ H1
theorem fJ {c:Expr}{body:List Stmt}{tc:TT}{tb:TS}(hp:PassesOwn (model X.prog X.w) X.A X.env X.xe)(hc:PT X c tc)(hb:tK X body tb):PS X (.While c body [] pos) (gL tc tb):=by
 intro pins s σ H D I h
 obtain⟨W,⟨m0,w0⟩,turn⟩:=h
 refine wpAny_While (codeAny_whileLoop (fun n s'=>∃ σ' H',Inv X pins σ' H' s'/\W n σ' H') ?_ m0 ⟨σ,H,I,w0⟩)
 rintro n s1 ⟨σ1,H1,I1,w1⟩
 refine wpAny_passesOwn hp (aZ (hc s1 σ1 H1 _ I1 (turn n σ1 H1 w1)) fun b s2 hz_ =>?_)
 refine ae.el hz_ _ ?_
 clear hz_
 rintro H2 I2 q2
 cases b with
 | true=>
  obtain⟨N,hN,q2⟩:=q2
  rw[if_pos rfl]
  refine wpAny_passesOwn hp (aZ (hb s2 σ1 H2 _ I2 q2) fun f s3 q3 =>?_)
  cases f with
  | next=>
   obtain⟨σ3,H3,I3,n3⟩:=q3
   obtain⟨m',hm,w3⟩:=hN σ3 H3 n3
   exact⟨m',hm,σ3,H3,I3,w3⟩
  | cont=>
   obtain⟨σ3,H3,I3,n3⟩:=q3
   obtain⟨m',hm,w3⟩:=hN σ3 H3 n3
   exact⟨m',hm,σ3,H3,I3,w3⟩
  | brk=>exact q3
  | ret v=>exact q3
 | false=>
  rw[if_neg Jm]
  exact wpAny_execs_nil ⟨σ1,H2,I2,q2⟩
end
structure It where
 go:Nat->Hp->Prop
 yld:Nat->Hp->V->Hp->Prop
 stop:Nat->Hp->Prop
def d6 (X:Cx)(pins:List (Addr×Obj))(H:Hp)(b:Addr):Prop:=
 H b=none/\b≠X.env.locals/\b∉X.fs/\(b∈X.ex∨X.s₀.heap.objs.size<=b)/\(∀x c,X.env.cells.lookup x=some c->c≠b)/\∀p∈X.pn++pins,p.1≠b
theorem Inv.jd {X:Cx}{pins:List (Addr×Obj)}{σ:St}{H H':Hp}{s:Shared}{b:Addr}(I:Inv X pins σ H s)(hb:s.heap.objs.size<=b)(hn:H' b=none):d6 X pins H' b:=by
 refine⟨hn,Yk (Jv I.lt hb),I.EF hb,.inr (Ju I.sz hb),fun x c e z =>?_,fun p hp z =>?_⟩
 ·obtain⟨v,q⟩:=I.cell x c e
  exact absurd (Jv q.lt (by rw[z];exact hb)) (Ya _)
 ·exact absurd (Jv (Jk (I.pin p hp).1) (by rw[z];exact hb)) (Ya _)
structure Turn (P:Program)(w:World)(K:Jc)(tg:Expr)(J:It)(fp:List Addr)(it:Addr)(tn:Nat->Heap->Prop):Prop where
 mem:it∈fp
 obj:∀i h,tn i h->∀b∈fp,∃o,h.get? b=some o/\∀v,o.data ≠ .cell v
 keep:∀i h h',tn i h->(∀b∈fp,∀o,h.get? b=some o->h'.get? b=some o)->tn i h'
 item:∀(X:Cx),X.prog=P->X.w=w->X.K=K->X.calm=true->∀(i:Nat) (pins:List (Addr×Obj)) (s:Shared) (σ:St) (H:Hp) (E:Value->Shared->Prop),Inv X pins σ H s->(∀b∈fp,d6 X pins H b)->tn i s.heap->J.go i H ->
  wpAny (model P w) X.A (pyNext (.ref it)) (fun r s1=>∃u,r=some u /\
   wpAny (model P w) X.A (letOwnedTupleGo tg (.ref it) u) (fun _ s2=>∃x H',Inv X pins σ H' s2/\RelV x u/\J.yld i H x H'/\tn (i+1) s2.heap/\∀b∈fp,H' b=none) E s1) E s
 done:∀(X:Cx),X.prog=P->X.w=w->X.K=K->X.calm=true->∀(i:Nat) (pins:List (Addr×Obj)) (s:Shared) (σ:St) (H:Hp) (E:Value->Shared->Prop),Inv X pins σ H s->(∀b∈fp,d6 X pins H b)->tn i s.heap->J.stop i H ->
  wpAny (model P w) X.A (pyNext (.ref it)) (fun r s1=>r=none/\Inv X pins σ H s1) E s
 self:∀(A:Around) (i:Nat) (s:Shared) (Q:Value->Shared->Prop) (E:Value->Shared->Prop),tn i s.heap->Q (.ref it) s->wpAny (model P w) A (pyIter (.ref it)) Q E s
abbrev TI:=St->Hp->(It->Hp->Prop)->Prop
def NR (X:Cx)(pins:List (Addr×Obj))(σ:St)(tg:Expr)(R:It->Hp->Prop)(Ec:Value)(s2:Shared):Prop:=
 Ej fun(it:Addr) (fp:List Addr) (tn:Nat->Heap->Prop) (J:It) (H':Hp)=>Ec = .ref it/\Inv X pins σ H' s2/\Turn X.prog X.w X.K tg J fp it tn/\tn 0 s2.heap/\(∀b∈fp,d6 X pins H' b)/\R J H'
def PI (X:Cx)(tg iter:Expr)(wi:TI):Prop:=
 ∀ ⦃pins:List (Addr×Obj)⦄ (s:Shared) (σ:St) (H:Hp) (R:It->Hp->Prop),Inv X pins σ H s->wi σ H R ->
  wpAny (model X.prog X.w) X.A (eval iter X.env) (fun v s1=>wpAny (model X.prog X.w) X.A (pyIter v) (NR X pins σ tg R) X.xe s1) X.xe s
theorem tF {M:Model}{A:Around}{E:Value->Shared->Prop}{s:Shared}{tg:Expr}{it:Addr}{u:Value}{o:Obj}{n:String}{vs:Array Value}{Q:Unit->Shared->Prop}(ho:s.heap.get? it=some o)(hc:o.cls = .type n)(hd:o.data = .fields vs)
  (hn:["enumerate", "zip", "dict_itemiterator", "dict_reverseitemiterator", "odict_iterator", "itertools.zip_longest", "itertools.pairwise"].contains n=false) (hQ:Q () s):wpAny M A (letOwnedTupleGo tg (.ref it) u) Q E s:=by
 unfold letOwnedTupleGo
 cases tg<;>first
  | exact wpAny_pure hQ
  | (cases u<;>first
    | exact wpAny_pure hQ
    | (refine wpAny_bind (wpAny_load ho ?_)
       rw[hc,hd]
       show wpAny M A (if (["enumerate", "zip", "dict_itemiterator", "dict_reverseitemiterator", "odict_iterator", "itertools.zip_longest", "itertools.pairwise"].contains n&&vs[0]? == some (rawInt _))=true then _ else _) Q E s
       rw[if_neg (by intro h;rw[hn,Bool.false_and] at h;cases h)]
       exact wpAny_pure hQ))
noncomputable def NC (K:Jc)(a:Addr):It:=
 ⟨fun i H=>bO fun xs x=>aD K H a xs/\xs[i]? = some x,fun i H x H'=>H'=H/\∀xs,aD K H a xs->xs[i]? = some x,fun i H=>∃xs,aD K H a xs/\xs.length<=i⟩
noncomputable def Df (lo:Int)(n:Nat):It:=⟨fun i _=>i<n,fun i H x H'=>H'=H/\x = .int (lo+i),fun i _=>n<=i⟩
theorem vL {P:Program}{w:World}{K:Jc}{tg:Expr}(a it:Addr):Turn P w K tg (NC K a) [it] it (fun i h=>h.IsListIter it a i) where
 mem:=by simp
 obj:=fun i h st b hb=>by
  have e:b=it:=by simpa using hb
  subst e
  obtain⟨o,e,c,d⟩:=st
  exact⟨o,e,fun v z=>by rw[d] at z;cases z⟩
 keep:=fun i h h' st k=>st.at fun o e=>k it (by simp) o e
 item:=by
  intro X hP hw hK hc i pins s σ H E I hf st hg
  subst hP hw hK
  obtain⟨xs,x,hq,hx⟩:=hg
  obtain⟨az,rv,p,hz⟩:=I.list hq
  obtain⟨u,hu,ru⟩:=rv.get hx
  obtain⟨f0,f1,f2,f3,f4,f5⟩:=hf it (by simp)
  refine wpAny_pyNext_list_item st p.isList (x:=u) (by simpa using hu) fun h' aE sb =>?_
  have I1:Inv X pins σ H { s with heap:=h' }:=I.turned (t':=s.toks) (fun b o hb e=>(sb.2 b hb).trans e) f0 f1 f3 f4 f5
  obtain⟨o,e,c,d⟩:=id aE
  exact⟨u,rfl,tF (s:={ s with heap:=h' }) e c d (by decide) ⟨x,H,I1,ru,⟨rfl,fun ys hy=>by rw[I.pV hy hq];exact hx⟩,aE,fun b hb=>(hf b hb).1⟩⟩
 done:=by
  intro X hP hw hK hc i pins s σ H E I hf st hg
  subst hP hw hK
  obtain⟨xs,hq,hx⟩:=hg
  obtain⟨az,rv,p,hz⟩:=I.list hq
  obtain⟨f0,f1,f2,f3,f4,f5⟩:=hf it (by simp)
  have hl:=rv.length
  exact wpAny_pyNext_list_end (I.ok.hd hc) st p.isList (by simp;omega) fun h' eb=>⟨rfl,I.turned (t':=s.toks) (fun b o hb e=>eb b o hb e) f0 f1 f3 f4 f5⟩
 self:=fun _ _ _ _ _ st h=>wpAny_pyIter_listiter st h
theorem rV {P:Program}{w:World}{K:Jc}{tg:Expr}(it:Addr)(lo:Int)(n:Nat):Turn P w K tg (Df lo n) [it] it (fun i h=>IsRangeIter h it (lo+(i:Nat)*1) ((n:Int)-(i:Nat)) 1) where
 mem:=by simp
 obj:=fun i h st b hb=>by
  have e:b=it:=by simpa using hb
  subst e
  exact⟨_,st,fun v z=>by
   have z':Data.fields _=Data.cell v:=z
   cases z'⟩
 keep:=fun i h h' st k=>k it (by simp) _ st
 item:=by
  intro X hP hw hK hc i pins s σ H E I hf st hg
  subst hP hw hK
  obtain⟨f0,f1,f2,f3,f4,f5⟩:=hf it (by simp)
  have W:=Walks.range (prog:=X.prog) (w:=X.w) (I.ok.hd hc) it lo 1 n
  refine W.item i s _ _ hg st fun v h' tk hv aE kk =>?_
  obtain⟨t,rfl⟩:=hv
  have I1:Inv X pins σ H { s with heap:=h',toks:=tk }:=I.turned (fun b o hb e=>kk b o (by simpa using hb) e) f0 f1 f3 f4 f5
  refine⟨_,rfl,tF (s:={ s with heap:=h',toks:=tk }) (n := "range_iterator") aE rfl rfl (by decide) ⟨.int (lo+i),H,I1,⟨t,?_⟩,⟨rfl,rfl⟩,aE,fun b hb=>(hf b hb).1⟩⟩
  rw[Int.mul_one]
 done:=by
  intro X hP hw hK hc i pins s σ H E I hf st hg
  subst hP hw hK
  obtain⟨f0,f1,f2,f3,f4,f5⟩:=hf it (by simp)
  exact wpAny_pyNext_range_end (I.ok.hd hc) st (by have:n<=i:=hg;omega) fun h' eb=>⟨rfl,I.turned (t':=s.toks) (fun b o hb e=>eb b o hb e) f0 f1 f3 f4 f5⟩
 self:=fun _ _ _ _ _ st h=>wpAny_pyIter_rangeiter st h
section
variable {X:Cx}{tg:Expr}
def BX (K:Jc)(tl:TE):TI:=fun σ H R=>tl σ H fun x H1=>∃a,x = .ref a/\(∃xs,aD K H1 a xs)/\R (NC K a) H1
theorem A7 {l:Expr}{tl:TE}(hl:PE X l tl):PI X tg l (BX X.K tl):=by
 intro pins s σ H R I h
 refine aZ (hl s σ H _ I h) fun v s1 hz_ =>?_
 refine ae.el hz_ _ ?_
 clear hz_
 rintro x H1 I1 r1 q1
 obtain⟨a,e,⟨xs,hq⟩,q⟩:=q1
 subst e
 cases r1
 obtain⟨az,rv,p,hz⟩:=I1.list hq
 refine wpAny_pyIter_list p.isList ?_
 refine⟨s1.heap.objs.size,[s1.heap.objs.size],_,_,H1,rfl,I1.kept (t':=s1.toks) fun b o e=>Jb _ e,vL a _,⟨_,Jo _ rfl,rfl,rfl⟩,fun b hb =>?_,q⟩
 have e:b=s1.heap.objs.size:=by simpa using hb
 subst e
 exact I1.jd (Jf _) (I1.aR.fresh (Jf _))
theorem oY {pins:List (Addr×Obj)}{σ:St}{H:Hp}{s:Shared}{R:It->Hp->Prop}{E:Value->Shared->Prop}{lo hi:Int}{t u v:Tok}{tk:Nat}(I:Inv X pins σ H s)(h1: -(2^62)<=lo)(h2:lo<2^62)(h3: -(2^62)<=hi)(h4:hi<2^62)
  (q:R (Df lo (hi-lo).toNat) H):wpAny (model X.prog X.w) X.A (pyIter (.ref s.heap.objs.size)) (NR X pins σ tg R) E { s with heap:=s.heap.push { cls := .type "range",data := .fields #[.int lo t,.int hi u,.int 1 v] },toks:=tk }:=by
 refine wpAny_pyIter_range (IsRange.new ..) (small_one h1 h2 h3 h4) ?_
 have I1:Inv X pins σ H { s with heap:=s.heap.push { cls := .type "range",data := .fields #[.int lo t,.int hi u,.int 1 v] },toks:=tk }:=I.kept fun b o e=>Jb _ e
 refine⟨(s.heap.push { cls := .type "range",data := .fields #[.int lo t,.int hi u,.int 1 v] }).objs.size,[(s.heap.push { cls := .type "range",data := .fields #[.int lo t,.int hi u,.int 1 v] }).objs.size],_,_,H,rfl,
  I1.kept (t':=tk) fun b o e=>Jb _ e,rV _ lo (hi-lo).toNat,?_,fun b hb =>?_,q⟩
 ·have e1:lo+((0:Nat):Int)*1=lo:=by simp
  have e2:(((hi-lo).toNat:Nat):Int)-((0:Nat):Int)=Builtin.Range.rangeSize lo hi 1:=by rw[rangeSize_one];split<;>omega
  show IsRangeIter _ _ (lo+((0:Nat):Int)*1) ((((hi-lo).toNat:Nat):Int)-((0:Nat):Int)) 1
  rw[e1,e2]
  exact Jo _ rfl
 ·have e:b=(s.heap.push { cls := .type "range",data := .fields #[.int lo t,.int hi u,.int 1 v] }).objs.size:=by simpa using hb
  subst e
  exact I1.jd (Jf _) (I1.aR.fresh (Jf _))
def Hq (ta:TA):TI:=fun σ H R=>ta σ H fun vs H1=>∃j:Int,vs=[.int j] /\ -(2^62)<=j/\j<2^62/\R (Df 0 j.toNat) H1
def Gs (ta:TA):TI:=fun σ H R=>ta σ H fun vs H1=>∃i j:Int,vs=[.int i,.int j]/\(-(2^62)<=i/\i<2^62 /\ -(2^62)<=j/\j<2^62)/\R (Df i (j-i).toNat) H1
theorem eJ {a:Expr}{ta:TA}{p pos:Pos}(hg:Gl X "range")(hm:X.mg "range" = none)(ha:PA X [a] ta)(hs:starEach [a] X.env=[(false,eval a X.env)]:=by rfl):PI X tg (.Call (.Name "range" p) [a] [] pos) (Hq ta):=by
 intro pins s σ H R I h
 refine Call_ (fW I hg hm boot_range (PyProof.Rows.callWith_type1 (aZ (ha s σ H _ I h) fun us s1 hz_=>ae.el hz_ _ fun vs H1 I1 r1 q1 =>?_) hs rfl))
 obtain⟨j,e,q1,q2,q⟩:=q1
 subst e
 cases r1 with
 | cons r rr=>
  cases rr
  obtain⟨t,rfl⟩:=r
  exact call_range_1 (oY I1 (by omega) (by omega) q1 q2 (by simpa using q))
theorem jv {a b:Expr}{ta:TA}{p pos:Pos}(hg:Gl X "range")(hm:X.mg "range" = none)(ha:PA X [a,b] ta)(hs:starEach [a,b] X.env=[(false,eval a X.env),(false,eval b X.env)]:=by rfl)(vZ:starEach [b] X.env=[(false,eval b X.env)]:=by rfl):
  PI X tg (.Call (.Name "range" p) [a,b] [] pos) (Gs ta):=by
 intro pins s σ H R I h
 refine Call_ (fW I hg hm boot_range (PyProof.Rows.callWith_type1 (aZ (ha s σ H _ I h) fun us s1 hz_=>ae.el hz_ _ fun vs H1 I1 r1 q1 =>?_) (by rw[hs,vZ]) (by rw[vZ];rfl)))
 obtain⟨i,j,e,⟨q1,q2,q3,q4⟩,q⟩:=q1
 subst e
 cases r1 with
 | cons r rr=>
  cases rr with
  | cons r' rr=>
   cases rr
   obtain⟨t,rfl⟩:=r
   obtain⟨t',rfl⟩:=r'
   exact call_range_2 (oY I1 q1 q2 q3 q4 q)
def nO (wi:TI)(g:TG)(tb:TS):TS:=fun D σ H=>wi σ H fun J H1=>∃W:Nat->Nat->St->Hp->Prop,(∃m,W 0 m σ H1)/\∀i m σ H,W i m σ H ->
 (J.stop i H/\D.nx σ H)∨(J.go i H/\∃N:St->Hp->Prop,(∀ σ' H',N σ' H'->∃m',m'<m/\W (i+1) m' σ' H')/\∀x H',J.yld i H x H'->g x σ H' fun σ2 H2=>tb { D with nx:=N,ct:=N,bk:=D.nx } σ2 H2)
noncomputable def eK (fp:List Addr)(h:Heap):List (Addr×Obj):=fp.filterMap fun b=>(h.get? b).map fun o=>(b,o)
theorem bP {fp:List Addr}{h:Heap}{b:Addr}{o:Obj}(hb:b∈fp)(e:h.get? b=some o):(b,o)∈eK fp h:=List.mem_filterMap.mpr ⟨b,hb,by rw[e];rfl⟩
theorem mx {fp:List Addr}{h:Heap}{p:Addr×Obj}(hp:p∈eK fp h):p.1∈fp/\h.get? p.1=some p.2:=by
 obtain⟨b,hb,e⟩:=List.mem_filterMap.mp hp
 cases q:h.get? b with
 | none=>rw[q] at e;cases e
 | some o=>
  rw[q] at e
  have e':(b,o)=p:=Option.some.inj e
  subst e'
  exact⟨hb,q⟩
theorem Inv.pinned {pins:List (Addr×Obj)}{σ:St}{H:Hp}{s:Shared}{fp:List Addr}(I:Inv X pins σ H s)(hf:∀b∈fp,d6 X pins H b)(ho:∀b∈fp,∃o,s.heap.get? b=some o/\∀v,o.data ≠ .cell v):Inv X (pins++eK fp s.heap) σ H s:=
 I.j4 fun p hp=>(Ji.mp hp).elim (fun z=>I.pin p (Jj _ z)) fun z=>by
  obtain⟨hb,e⟩:=mx z
  obtain⟨f0,f1,f2,_⟩:=hf p.1 hb
  obtain⟨o,e',d⟩:=ho p.1 hb
  rw[e] at e';cases e'
  exact⟨e,f0,f1,f2,d⟩
theorem Inv.dJ {pins pl:List (Addr×Obj)}{σ:St}{H:Hp}{s:Shared}(I:Inv X (pins++pl) σ H s):Inv X pins σ H s:=I.j4 fun p hp=>I.pin p (Jj _ (Jx _ hp))
theorem eY {iter:Expr}{body:List Stmt}{wi:TI}{g:TG}{tb:TS}{pos:Pos}(hp:PassesOwn (model X.prog X.w) X.A X.env X.xe)(hc:X.calm=true)(hi:PI X tg iter wi)(hg:PG X tg g)(hb:tK X body tb)
  (hs:∀x,foldedSetIterable iter X.env x=pure x:=by intro _;rfl):PS X (.For tg iter body [] pos) (nO wi g tb):=by
 intro pins s σ H D I h
 refine wpAny_For (aZ (hi s σ H _ I h) fun v s1 h1=>aZ h1 fun Ec s2 h2 =>?_) hs
 obtain⟨it,fp,tn,J,H2,e,I2,T,bQ,f2,W,⟨m0,w0⟩,turn⟩:=h2
 subst e
 have gb:∀{H':Hp},(∀b∈fp,H' b=none)->∀b∈fp,d6 X pins H' b:=fun hn b hb=>⟨hn b hb,(f2 b hb).2⟩
 refine codeAny_forLoop_any (fun n s'=>∃i σ' H',Inv X pins σ' H' s'/\tn i s'.heap/\(∀b∈fp,H' b=none)/\W i n σ' H') ?_ m0 ⟨0,σ,H2,I2,bQ,fun b hb=>(f2 b hb).1,w0⟩
 rintro n s3 ⟨i,σ3,H3,I3,cS,fr3,w3⟩
 rcases turn i n σ3 H3 w3 with ⟨stop,qn⟩|⟨go,N,hN,step⟩
 ·refine wpAny_passesOwn hp (aZ (T.done X rfl rfl rfl hc i pins s3 σ3 H3 X.xe I3 (gb fr3) cS stop) fun r s4 hz_ =>?_)
  refine ae.el hz_ _ ?_
  clear hz_
  rintro hr I4
  subst hr
  exact wpAny_execs_nil ⟨σ3,H3,I4,qn⟩
 ·refine wpAny_passesOwn hp (aZ (T.item X rfl rfl rfl hc i pins s3 σ3 H3 X.xe I3 (gb fr3) cS go) fun r s4 hz_ =>?_)
  refine ae.el hz_ _ ?_
  clear hz_
  rintro u hr h4
  subst hr
  refine wpAny_passesOwn hp (aZ h4 fun _ s5 hz_=>ae.el hz_ _ fun x H5 I5 r5 y5 dz fr5 =>?_)
  have zj:=I5.pinned (gb fr5) (T.obj _ _ dz)
  refine wpAny_passesOwn hp (aZ (hg s5 σ3 H5 x u _ zj r5 (step x H5 y5)) fun _ s6 hz_ =>?_)
  refine ae.el hz_ _ ?_
  clear hz_
  rintro σ6 H6 I6 q6
  refine wpAny_passesOwn hp (aZ (hb s6 σ6 H6 _ I6 q6) fun f s7 q7 =>?_)
  have again:∀{σ7:St} {H7:Hp},Inv X (pins++eK fp s5.heap) σ7 H7 s7->N σ7 H7->∃m,m<n/\∃i σ' H',Inv X pins σ' H' s7/\tn i s7.heap/\(∀b∈fp,H' b=none)/\W i m σ' H':=fun{σ7 H7} I7 n7=>by
   obtain⟨m',hm,w7⟩:=hN σ7 H7 n7
   refine⟨m',hm,i+1,σ7,H7,I7.dJ,T.keep _ _ _ dz fun b hb o e=>(I7.pin (b,o) (Jj _ (Jj _ (bP hb e)))).1,fun b hb =>?_,w7⟩
   obtain⟨o,e,d⟩:=T.obj _ _ dz b hb
   exact(I7.pin (b,o) (Jj _ (Jj _ (bP hb e)))).2.1
  cases f with
  | next=>obtain⟨σ7,H7,I7,n7⟩:=q7;exact again I7 n7
  | cont=>obtain⟨σ7,H7,I7,n7⟩:=q7;exact again I7 n7
  | brk=>obtain⟨σ7,H7,I7,q7⟩:=q7;exact⟨σ7,H7,I7.dJ,q7⟩
  | ret v=>obtain⟨x7,σ7,H7,I7,r7,q7⟩:=q7;exact⟨x7,σ7,H7,I7.dJ,r7,q7⟩
end
theorem mT {lo:Int}{n:Nat}{g:TG}{tb:TS}{D:Ends}{σ:St}{H:Hp}(Pv:Nat->St->Hp->Prop)(h0:Pv 0 σ H)
  (hs:∀i σ H,i<n->Pv i σ H->g (.int (lo+i)) σ H fun σ2 H2=>tb { D with nx:=Pv (i+1),ct:=Pv (i+1),bk:=D.nx } σ2 H2) (hd:∀ σ H,Pv n σ H->D.nx σ H) :
  ∃W:Nat->Nat->St->Hp->Prop,(∃m,W 0 m σ H)/\∀i m σ H,W i m σ H ->
   ((Df lo n).stop i H/\D.nx σ H)∨((Df lo n).go i H/\∃N:St->Hp->Prop,(∀ σ' H',N σ' H'->∃m',m'<m/\W (i+1) m' σ' H')/\∀x H',(Df lo n).yld i H x H'->g x σ H' fun σ2 H2=>tb { D with nx:=N,ct:=N,bk:=D.nx } σ2 H2):=by
 refine⟨fun i m σ H=>m=n-i/\i<=n/\Pv i σ H,⟨n,by simp,Us _,h0⟩,?_⟩
 rintro i m σ H ⟨rfl,hi,p⟩
 by_cases bN:i<n
 ·refine .inr ⟨bN,Pv (i+1),fun σ' H' p'=>⟨n-(i+1),by omega,rfl,bN,p'⟩,fun x H' y =>?_⟩
  obtain⟨e,y⟩:=y
  subst e y
  exact hs i σ _ bN p
 ·have e:i=n:=by omega
  subst e
  exact .inl ⟨Jf _,hd σ H p⟩
abbrev R2:=V->V->Hp->VK->Prop
def fj (X:Cx)(f:Value->Value->Sem Value)(r:R2):Prop:=
 ∀ ⦃pins:List (Addr×Obj)⦄ (s:Shared) (σ:St) (H:Hp) (x y:V) (v u:Value) (Q:VK),Inv X pins σ H s->RelV x v->RelV y u->r x y H Q ->
  wpAny (model X.prog X.w) X.A (f v u) (EP X pins σ Q) X.xe s
def bU (X:Cx)(f:Value)(r:List V->Hp->VK->Prop):Prop:=
 ∀ ⦃pins:List (Addr×Obj)⦄ (s:Shared) (σ:St) (H:Hp) (xs:List V) (us:List Value) (Q:VK),Inv X pins σ H s->Vals xs us->r xs H Q ->
  wpAny (model X.prog X.w) X.A (call f us) (EP X pins σ Q) X.xe s
def Lc (X:Cx)(r:V->Hp->(Bool->Hp->Prop)->Prop):Prop:=
 ∀ ⦃pins:List (Addr×Obj)⦄ (s:Shared) (σ:St) (H:Hp) (x:V) (v:Value) (Q:Bool->Hp->Prop),Inv X pins σ H s->RelV x v->r x H Q ->
  wpAny (model X.prog X.w) X.A (truthy v) (TP X pins σ Q) X.xe s
def Hd (r:R2)(ta tb:TE):TE:=fun σ H Q=>ta σ H fun x H1=>tb σ H1 fun y H2=>r x y H2 Q
def rI (C:Int->Int->Prop)(g:Int->Int->V):R2:=fun x y H Q=>bO fun i j=>x = .int i/\y = .int j/\C i j/\Q (g i j) H
def D3 (g:Int->Int->V):R2:=fun x y H Q=>bO fun i j=>x = .int i/\y = .int j/\Q (g i j) H
section
variable {X:Cx}{a b c:Expr}{ta tb tc:TE}{pos:Pos}
theorem Cb (ha:PE X a ta)(hb:PE X b tb){pins:List (Addr×Obj)}{s:Shared}{σ:St}{H:Hp}{R:V->V->Hp->Prop}(I:Inv X pins σ H s)
  (h:ta σ H fun x H1=>tb σ H1 fun y H2=>R x y H2) {Q:Value->Shared->Prop} {f:Value->Value->Sem Value}
  (hf:∀v u s2 x y H2,Inv X pins σ H2 s2->RelV x v->RelV y u->R x y H2->wpAny (model X.prog X.w) X.A (f v u) Q X.xe s2) :
  wpAny (model X.prog X.w) X.A (eval a X.env) (fun v s₁=>wpAny (model X.prog X.w) X.A (eval b X.env) (fun u s₂=>wpAny (model X.prog X.w) X.A (f v u) Q X.xe s₂) X.xe s₁) X.xe s:=by
 refine aZ (ha s σ H _ I h) fun v s1 hz_ =>?_
 refine ae.el hz_ _ ?_
 clear hz_
 rintro x H1 I1 r1 q1
 refine aZ (hb s1 σ H1 _ I1 q1) fun u s2 hz_ =>?_
 refine ae.el hz_ _ ?_
 clear hz_
 rintro y H2 I2 r2 q2
 exact hf v u s2 x y H2 I2 r1 r2 q2
theorem bj {op:Operator}{r:R2}(ho:fj X (binaryOp op) r)(ha:PE X a ta)(hb:PE X b tb):PE X (.BinOp a op b pos) (Hd r ta tb):=by
 intro pins s σ H Q I h
 exact wpAny_BinOp (Cb ha hb I h fun v u s2 x y H2 I2 rx ry q=>ho s2 σ H2 x y v u Q I2 rx ry q)
theorem Iw {f:Value->Value->Sem Value}{C:Int->Int->Prop}{g:Int->Int->Int}
  (rule:∀(i j:Int) (t u:Tok) (s:Shared) (Q:Value->Shared->Prop) (E:Value->Shared->Prop),C i j->Q (.int (g i j) s.toks) { s with toks:=s.toks+1 } -> wpAny (model X.prog X.w) X.A (f (.int i t) (.int j u)) Q E s) :
  fj X f (rI C fun i j =>.int (g i j)):=by
 intro pins s σ H x y v u Q I rx ry h
 obtain⟨i,j,rfl,rfl,hc,q⟩:=h
 obtain⟨t,rfl⟩:=rx
 obtain⟨t',rfl⟩:=ry
 exact rule i j t t' s _ _ hc ⟨.int (g i j),H,I.tok _,⟨_,rfl⟩,q⟩
theorem Kl {f:Value->Value->Sem Value}{g:Int->Int->Int}
  (rule:∀(i j:Int) (t u:Tok) (s:Shared) (Q:Value->Shared->Prop) (E:Value->Shared->Prop),Q (.int (g i j) s.toks) { s with toks:=s.toks+1 } -> wpAny (model X.prog X.w) X.A (f (.int i t) (.int j u)) Q E s) :
  fj X f (D3 fun i j =>.int (g i j)):=by
 intro pins s σ H x y v u Q I rx ry h
 obtain⟨i,j,rfl,rfl,q⟩:=h
 obtain⟨t,rfl⟩:=rx
 obtain⟨t',rfl⟩:=ry
 exact rule i j t t' s _ _ ⟨.int (g i j),H,I.tok _,⟨_,rfl⟩,q⟩
theorem Dg {f:Value->Value->Sem Value}{g:Int->Int->Bool}
  (rule:∀(i j:Int) (t u:Tok) (s:Shared) (Q:Value->Shared->Prop) (E:Value->Shared->Prop),Q (.bool (g i j)) s->wpAny (model X.prog X.w) X.A (f (.int i t) (.int j u)) Q E s) :
  fj X f (D3 fun i j =>.bl (g i j)):=by
 intro pins s σ H x y v u Q I rx ry h
 obtain⟨i,j,rfl,rfl,q⟩:=h
 obtain⟨t,rfl⟩:=rx
 obtain⟨t',rfl⟩:=ry
 exact rule i j t t' s _ _ ⟨.bl (g i j),H,I,rfl,q⟩
def Dr (i j:Int):Prop:=0<j/\j<1073741824
def ME (i j:Int):Prop:=0<=j/\j<=1000000/\i.natAbs<2^64
def rq (i j:Int):Prop:=(-(2^64)<i/\i<2^64)∨(-(2^64)<j/\j<2^64)
theorem rq.ok {i j:Int}(h:rq i j):IntMulOk i j:=by
 rcases h with ⟨h1,h2⟩|⟨h1,h2⟩
 ·exact .of_left (intBits_le_64 h1 h2)
 ·exact .of_right (intBits_le_64 h1 h2)
theorem Cz:fj X (binaryOp .Add) (D3 fun i j =>.int (i+j)):=Kl fun _ _ _ _ _ _ _ q=>add_int q
theorem DT:fj X (binaryOp .Mult) (rI rq fun i j =>.int (i*j)):=Iw fun _ _ _ _ _ _ _ hc q=>mul_int q hc.ok
theorem Au:fj X (binaryOp .FloorDiv) (rI Dr fun i j =>.int (i / j)):=Iw fun i j _ _ _ _ _ hc q=>by
 have h1:(0:Int)<j:=hc.1
 have h2:j<1073741824:=hc.2
 exact floordiv_int (by omega) (by rw[Int.fdiv_eq_ediv_of_nonneg i (by omega)];exact q) (.inl (PyProof.noPylong_small (by omega)))
theorem jw:fj X (binaryOp .Mod) (rI (fun _ j=>0<j) fun i j =>.int (i%j)):=Iw fun i j _ _ _ _ _ hc q=>by
 have h1:(0:Int)<j:=hc
 exact mod_int' (by omega) (by rw[Int.fmod_eq_emod_of_nonneg i (by omega)];exact q)
theorem Dv:fj X (binaryOp .Pow) (rI ME fun i j =>.int (i^j.toNat)):=Iw fun _ _ _ _ _ _ _ hc q=>pow_int_small hc.1 hc.2.1 hc.2.2 q
end
noncomputable def EV:V->V->Bool
 | .non,.non=>true | .non,.int _=>true | .int _,.non=>true | .non,.bl _=>true | .bl _,.non=>true | .non,.str _=>true | .str _,.non=>true
 | .int _,.int _=>true | .bl _,.bl _=>true | .str _,.str _=>true | .byt _,.byt _=>true
 | .int _,.str _=>true | .str _,.int _=>true | .bl _,.str _=>true | .str _,.bl _=>true
 | _,_=>false
def KG:R2:=fun x y H Q=>EV x y=true/\Q (.bl (decide (x=y))) H
def Me:R2:=fun x y H Q=>EV x y=true/\Q (.bl (!decide (x=y))) H
theorem t7 {i j:Int}:decide (V.int i=V.int j)=(i==j):=by
 rw[Bool.eq_iff_iff]
 simp
theorem wU {i j:Bool}:decide (V.bl i=V.bl j)=(i==j):=by
 rw[Bool.eq_iff_iff]
 simp
theorem ug {i j:Str}:decide (V.str i=V.str j)=(i==j):=by
 rw[Bool.eq_iff_iff]
 simp
theorem tH {i j:Array UInt8}:decide (V.byt i=V.byt j)=(i.toList==j.toList):=by
 rw[Bool.eq_iff_iff]
 cases i
 cases j
 simp
section
variable {X:Cx}{a b c:Expr}{ta tb tc:TE}{pos:Pos}
theorem aY {pins:List (Addr×Obj)}{σ:St}{H:Hp}{s:Shared}{Q:VK}{k k':Bool}(I:Inv X pins σ H s)(q:Q (.bl k) H)(e:k=k'):EP X pins σ Q (.bool k') s:=by
 subst e
 exact⟨.bl k,H,I,rfl,q⟩
theorem FR:fj X (compareOp .Eq) KG:=by
 intro pins s σ H x y v u Q I rx ry h
 obtain⟨hs,q⟩:=h
 cases x with
 | non=>
  cases rx
  cases y with
  | non=>cases ry;exact PySem.EqNone.eq_none_none (aY I q (by simp))
  | bl j=>cases ry;exact PySem.EqNone.eq_none_bool (aY I q (by simp))
  | int j=>obtain⟨t',rfl⟩:=ry;exact PySem.EqNone.eq_none_int (aY I q (by simp))
  | str j=>obtain⟨t',rfl⟩:=ry;exact PySem.EqNone.eq_none_str (aY I q (by simp))
  | _=>exact absurd (show false=true from hs) Jm
 | bl i=>
  cases rx
  cases y with
  | non=>cases ry;exact PySem.EqNone.eq_bool_none (aY I q (by simp))
  | bl j=>cases ry;exact eq_bool (aY I q wU)
  | str j=>obtain⟨t',rfl⟩:=ry;exact PySem.EqMixed.eq_bool_str (aY I q (by simp))
  | _=>exact absurd (show false=true from hs) Jm
 | int i=>
  obtain⟨t,rfl⟩:=rx
  cases y with
  | non=>cases ry;exact PySem.EqNone.eq_int_none (aY I q (by simp))
  | int j=>obtain⟨t',rfl⟩:=ry;exact eq_int (aY I q t7)
  | str j=>obtain⟨t',rfl⟩:=ry;exact PySem.EqMixed.eq_int_str (aY I q (by simp))
  | _=>exact absurd (show false=true from hs) Jm
 | str i=>
  obtain⟨t,rfl⟩:=rx
  cases y with
  | non=>cases ry;exact PySem.EqNone.eq_str_none (aY I q (by simp))
  | bl j=>cases ry;exact PySem.EqMixed.eq_str_bool (aY I q (by simp))
  | int j=>obtain⟨t',rfl⟩:=ry;exact PySem.EqMixed.eq_str_int (aY I q (by simp))
  | str j=>obtain⟨t',rfl⟩:=ry;exact eq_str (aY I q ug)
  | _=>exact absurd (show false=true from hs) Jm
 | byt i=>
  obtain⟨t,rfl⟩:=rx
  cases y with
  | byt j=>obtain⟨t',rfl⟩:=ry;exact PySem.W.eq_bytes (aY I q tH)
  | _=>exact absurd (show false=true from hs) Jm
 | _=>cases y<;>exact absurd (show false=true from hs) Jm
theorem GC:fj X (compareOp .NotEq) Me:=by
 intro pins s σ H x y v u Q I rx ry h
 obtain⟨hs,q⟩:=h
 cases x with
 | non=>
  cases rx
  cases y with
  | non=>cases ry;exact PySem.EqNone.ne_none_none (aY I q (by simp))
  | bl j=>cases ry;exact PySem.EqNone.ne_none_bool (aY I q (by simp))
  | int j=>obtain⟨t',rfl⟩:=ry;exact PySem.EqNone.ne_none_int (aY I q (by simp))
  | str j=>obtain⟨t',rfl⟩:=ry;exact PySem.EqNone.ne_none_str (aY I q (by simp))
  | _=>exact absurd (show false=true from hs) Jm
 | bl i=>
  cases rx
  cases y with
  | non=>cases ry;exact PySem.EqNone.ne_bool_none (aY I q (by simp))
  | bl j=>cases ry;exact ne_bool (aY I q (congrArg not wU))
  | str j=>obtain⟨t',rfl⟩:=ry;exact PySem.EqMixed.ne_bool_str (aY I q (by simp))
  | _=>exact absurd (show false=true from hs) Jm
 | int i=>
  obtain⟨t,rfl⟩:=rx
  cases y with
  | non=>cases ry;exact PySem.EqNone.ne_int_none (aY I q (by simp))
  | int j=>obtain⟨t',rfl⟩:=ry;exact ne_int (aY I q (congrArg not t7))
  | str j=>obtain⟨t',rfl⟩:=ry;exact PySem.EqMixed.ne_int_str (aY I q (by simp))
  | _=>exact absurd (show false=true from hs) Jm
 | str i=>
  obtain⟨t,rfl⟩:=rx
  cases y with
  | non=>cases ry;exact PySem.EqNone.ne_str_none (aY I q (by simp))
  | bl j=>cases ry;exact PySem.EqMixed.ne_str_bool (aY I q (by simp))
  | int j=>obtain⟨t',rfl⟩:=ry;exact PySem.EqMixed.ne_str_int (aY I q (by simp))
  | str j=>obtain⟨t',rfl⟩:=ry;exact ne_str (aY I q (congrArg not ug))
  | _=>exact absurd (show false=true from hs) Jm
 | byt i=>
  obtain⟨t,rfl⟩:=rx
  cases y with
  | byt j=>obtain⟨t',rfl⟩:=ry;exact PySem.W.ne_bytes (aY I q (congrArg not tH))
  | _=>exact absurd (show false=true from hs) Jm
 | _=>cases y<;>exact absurd (show false=true from hs) Jm
theorem qv:fj X (compareOp .Lt) (D3 fun i j =>.bl (decide (i<j))):=Dg fun _ _ _ _ _ _ _ q=>lt_int q
theorem xy:fj X (compareOp .Gt) (D3 fun i j =>.bl (decide (j<i))):=Dg fun _ _ _ _ _ _ _ q=>gt_int q
theorem Bj:fj X (compareOp .GtE) (D3 fun i j =>.bl (decide (j<=i))):=Dg fun _ _ _ _ _ _ _ q=>ge_int q
theorem B8:fj X (compareOp .Is) (fun x y H Q=>y = .non/\Q (.bl (decide (x = .non))) H):=by
 intro pins s σ H x y v u Q I rx ry h
 obtain⟨rfl,q⟩:=h
 cases ry
 refine is_none_gen (aY I q ?_)
 cases x<;>first
  | (cases rx;rfl)
  | (obtain⟨t,rfl⟩:=rx;rfl)
theorem Bb:fj X (compareOp .IsNot) (fun x y H Q=>y = .non/\Q (.bl (!decide (x = .non))) H):=by
 intro pins s σ H x y v u Q I rx ry h
 obtain⟨rfl,q⟩:=h
 cases ry
 refine isnot_none_gen (aY I q ?_)
 cases x<;>first
  | (cases rx;rfl)
  | (obtain⟨t,rfl⟩:=rx;rfl)
theorem fj.or {f:Value->Value->Sem Value}{r r':R2}(h:fj X f r)(h':fj X f r'):fj X f (fun x y H Q=>r x y H Q∨r' x y H Q):=by
 intro pins s σ H x y v u Q I rx ry q
 rcases q with q|q
 ·exact h s σ H x y v u Q I rx ry q
 ·exact h' s σ H x y v u Q I rx ry q
theorem aH (b:Expr){op:CmpOp}(h:op ≠ .In:=by decide)(h2:op ≠ .NotIn:=by decide):behindInMarks op b=false:=by
 have e1:(op==CmpOp.In)=false:=by cases op<;>first|rfl|exact absurd rfl h
 have e2:(op==CmpOp.NotIn)=false:=by cases op<;>first|rfl|exact absurd rfl h2
 cases b<;>simp[behindInMarks,e1,e2]
theorem dk {op:CmpOp}{r:R2}(ho:fj X (compareOp op) r)(ha:PE X a ta)(hb:PE X b tb)(hm:behindInMarks op b=false):PE X (.Compare a [op] [b] pos) (Hd r ta tb):=by
 intro pins s σ H Q I h
 exact wpAny_Compare1 (Cb ha hb I h fun v u s2 x y H2 I2 rx ry q=>ho s2 σ H2 x y v u Q I2 rx ry q) hm
def Bo (t:TE):TT:=fun σ H Q=>t σ H fun x H'=>∃k,x = .bl k/\Q k H'
theorem aI {op:CmpOp}{r:R2}(ho:fj X (compareOp op) r)(ha:PE X a ta)(hb:PE X b tb)(hm:behindInMarks op b=false):PT X (.Compare a [op] [b] pos) (Bo (Hd r ta tb)):=by
 intro pins s σ H Q I h
 refine wpAny_isTrue_Compare1 (aZ (ha s σ H _ I h) fun v s1 hz_=>ae.el hz_ _ fun x H1 I1 r1 q1=>aZ (hb s1 σ H1 _ I1 q1) fun u s2 ⟨y,H2,I2,r2,q2⟩=>
  aZ (ho s2 σ H2 x y v u _ I2 r1 r2 q2) fun c s3 ⟨z,H3,I3,r3,k,e,q3⟩=>?_) hm
 subst e
 cases r3
 exact wpAny_truthy_bool ⟨H3,I3,q3⟩
def Er (K:Jc)(x:V)(H:Hp)(k:Bool):Prop:=
 match x with
 | .non=>k=false
 | .bl b=>k=b
 | .int i=>k=(i != 0)
 | .str y=>y.length<=sizeLine/\k=((y.length:Int) != 0)
 | .byt y=>y.size<=sizeLine/\k=((y.size:Int) != 0)
 | .ref p=>(∃xs,aD K H p xs/\k = !xs.isEmpty)∨(∃xs,fw K H p xs/\k = !xs.isEmpty)∨∃kvs,H p=some (.dK kvs)/\k = !kvs.isEmpty
 | _=>False
theorem rU {κ:Type}{kvs:List (κ×V)}{vs:List (κ×Value)}(r:KV kvs vs):(!vs.isEmpty) = !kvs.isEmpty:=by
 cases r<;>rfl
theorem lJ {xs:List V}{az:List Value}(r:Vals xs az):(!az.toArray.isEmpty) = !xs.isEmpty:=by
 cases r<;>simp
theorem jJ:(sizeLine:Nat)<2^63:=by rw[sizeLine_eq];decide
theorem DU:Lc X (fun x H Q=>∃k,Er X.K x H k/\Q k H):=by
 intro pins s σ H x v Q I rx h
 obtain⟨k,e,q⟩:=h
 have hl:=jJ
 have hs:sizeLine=16777216:=sizeLine_eq
 cases x with
 | non=>
  cases rx
  have e':k=false:=e
  subst e'
  exact truthy_none ⟨H,I,q⟩
 | bl b=>
  cases rx
  have e':k=b:=e
  subst e'
  exact wpAny_truthy_bool ⟨H,I,q⟩
 | int i=>
  obtain⟨t,rfl⟩:=rx
  have e':k=(i != 0):=e
  subst e'
  exact PySem.P.truthy_int ⟨H,I,q⟩
 | str y=>
  obtain⟨t,rfl⟩:=rx
  obtain⟨hy,e'⟩:y.length<=sizeLine/\k=((y.length:Int) != 0):=e
  subst e'
  exact PySem.P.truthy_str (by omega) ⟨H,I.tok _,q⟩
 | byt y=>
  obtain⟨t,rfl⟩:=rx
  obtain⟨hy,e'⟩:y.size<=sizeLine/\k=((y.size:Int) != 0):=e
  subst e'
  exact PySem.W.truthy_bytes (by omega) ⟨H,I.tok _,q⟩
 | ref p=>
  cases rx
  have e':(∃xs,aD X.K H p xs/\k = !xs.isEmpty)∨(∃xs,fw X.K H p xs/\k = !xs.isEmpty)∨∃kvs,H p=some (.dK kvs)/\k = !kvs.isEmpty:=e
  rcases e' with ⟨xs,hx,e'⟩|⟨xs,hx,e'⟩|⟨kvs,hx,e'⟩
  ·subst e'
   obtain⟨az,r,pl,hz⟩:=I.list hx
   have hlen:=r.length
   exact wpAny_truthy_list pl.isList (by simp only[Jr];omega) ⟨H,I.tok _,by rw[lJ r];exact q⟩
  ·subst e'
   obtain⟨az,r,pl,hz⟩:=I.tuple hx
   have hlen:=r.length
   exact truthy_tuple pl (by simp only[Jr];omega) ⟨H,I.tok _,by rw[lJ r];exact q⟩
  ·subst e'
   obtain⟨hz,hS,vs,r,m⟩:kvs.length<=sizeLine/\(p==sysModules)=false/\∃vs,KV kvs vs/\s.heap.DictOf (aU X.prog X.w) p vs:=I.aR p _ hx
   have hlen:kvs.length=vs.length:=Paired.length r
   exact wpAny_truthy_dict hS m (by omega) ⟨H,I.tok _,by rw[rU r];exact q⟩
 | _=>exact(show False from e).elim
theorem xS (ha:PE X a ta)(he:∀whole,isTrue a X.env whole=(do let v <-whole;standAt a.pos;holding [v] (truthy v))):
  PT X a (fun σ H Q=>ta σ H fun x H'=>∃k,Er X.K x H' k/\Q k H'):=by
 intro pins s σ H Q I h
 exact isTrue_plain (aZ (ha s σ H _ I h) fun v s1 hz_=>ae.el hz_ _ fun x H1 I1 r1 q1=>DU s1 σ H1 x v Q I1 r1 q1) (he _)
theorem si:fj X (binaryOp .Add) (fun x y H Q=>∃i j,x = .str i/\y = .str j/\i.length+j.length<=sizeLine/\Q (.str (i++j)) H):=by
 intro pins s σ H x y v u Q I rx ry h
 obtain⟨i,j,rfl,rfl,hz,q⟩:=h
 obtain⟨t,rfl⟩:=rx
 obtain⟨t',rfl⟩:=ry
 exact add_str (fun t' tk=>⟨.str (i++j),H,I.tok _,⟨_,rfl⟩,q⟩) hz
theorem vals1 {x:V}{us:List Value}(r:Vals [x] us):∃u,us=[u]/\RelV x u:=by
 cases r with
 | cons r1 r2=>cases r2;exact⟨_,rfl,r1⟩
theorem vals2 {x y:V}{us:List Value}(r:Vals [x,y] us):∃u w',us=[u,w']/\RelV x u/\RelV y w':=by
 cases r with
 | cons r1 r2=>
  cases r2 with
  | cons r3 r4=>cases r4;exact⟨_,_,rfl,r1,r3⟩
theorem u7:bU X (.type "int") (fun xs H Q=>(∃i,xs=[.int i]/\Q (.int i) H)∨∃k,xs=[.bl k]/\Q (.int (if k then 1 else 0)) H):=by
 intro pins s σ H xs us Q I r h
 rcases h with ⟨i,rfl,q⟩|⟨k,rfl,q⟩
 ·obtain⟨u,rfl,t,rfl⟩:=vals1 r
  exact call_int_int ⟨.int i,H,I,⟨_,rfl⟩,q⟩
 ·obtain⟨u,rfl,r1⟩:=vals1 r
  cases r1
  exact call_int_bool ⟨.int (if k then 1 else 0),H,I.tok _,⟨_,rfl⟩,q⟩
def Dh (K:Jc)(x:V)(H:Hp)(n:Nat):Prop:=
 match x with
 | .str y=>y.length<=sizeLine/\n=y.length
 | .byt y=>y.size<=sizeLine/\n=y.size
 | .ref p=>(∃xs,aD K H p xs/\n=xs.length)∨∃xs,fw K H p xs/\n=xs.length
 | _=>False
theorem xR:bU X (.builtin "len") (fun xs H Q=>∃x n,xs=[x]/\Dh X.K x H n/\Q (.int n) H):=by
 intro pins s σ H xs us Q I r h
 obtain⟨x,n,rfl,e,q⟩:=h
 obtain⟨u,rfl,rx⟩:=vals1 r
 have hl:=jJ
 have hs:sizeLine=16777216:=sizeLine_eq
 cases x with
 | str y=>
  obtain⟨t,rfl⟩:=rx
  obtain⟨hy,e'⟩:y.length<=sizeLine/\n=y.length:=e
  subst e'
  exact len_str (by omega) ⟨.int _,H,I.tok _,⟨_,rfl⟩,q⟩
 | byt y=>
  obtain⟨t,rfl⟩:=rx
  obtain⟨hy,e'⟩:y.size<=sizeLine/\n=y.size:=e
  subst e'
  exact PySem.W.len_bytes (by omega) ⟨.int _,H,I.tok _,⟨_,rfl⟩,q⟩
 | ref p=>
  cases rx
  have e':(∃xs,aD X.K H p xs/\n=xs.length)∨∃xs,fw X.K H p xs/\n=xs.length:=e
  rcases e' with ⟨xs,hx,e'⟩|⟨xs,hx,e'⟩
  ·subst e'
   obtain⟨az,r',pl,hz⟩:=I.list hx
   have hlen:=r'.length
   exact Calls.call_len_list pl.isList (by simp only[Jr];omega) ⟨.int xs.length,H,I.tok _,⟨_,by simp only[Jr];rw[hlen]⟩,q⟩
  ·subst e'
   obtain⟨az,r',pl,hz⟩:=I.tuple hx
   have hlen:=r'.length
   exact len_tuple pl (by simp only[Jr];omega) ⟨.int xs.length,H,I.tok _,⟨_,by simp only[Jr];rw[hlen]⟩,q⟩
 | _=>exact(show False from e).elim
theorem qB:bU X (.builtin "divmod") (fun xs H Q=>∃i j,xs=[.int i,.int j]/\Dr i j/\∀p,H p=none->Q (.ref p) (upd H p (.tup [.int (i / j),.int (i%j)]))):=by
 intro pins s σ H xs us Q I r h
 obtain⟨i,j,rfl,⟨h1,h2⟩,q⟩:=h
 obtain⟨u,w',rfl,⟨t,rfl⟩,⟨t',rfl⟩⟩:=vals2 r
 refine divmod_int (by omega) ?_ (.inl (PyProof.noPylong_small (by omega)))
 rw[Int.fdiv_eq_ediv_of_nonneg i (by omega),Int.fmod_eq_emod_of_nonneg i (by omega)]
 have hn:H s.heap.objs.size=none:=I.aR.fresh (Jf _)
 refine⟨.ref s.heap.objs.size,_,?_,rfl,q _ hn⟩
 refine I.laid (fun b o e=>Jb _ e) (Jf _) ⟨by simp only[Jt,Yr];rw[sizeLine_eq];decide,[.int (i / j) s.toks,.int (i%j) (s.toks+1)],.cons ⟨_,rfl⟩ (.cons ⟨_,rfl⟩ .nil),?_⟩
 exact⟨_,Jo s.heap rfl,rfl,0,rfl⟩
end
structure DQ (h:Heap)(x dx C:Addr)(mA:Str->Option Value):Prop where
 obj:h.get? x=some (PySem.W.instObj C dx)
 ns:h.Ns1 dx mA
 ne:dx≠x
theorem vo {h:Heap}{dx:Addr}{mA:Str->Option Value}(n:h.Ns1 dx mA):∃od,h.get? dx=some od/\∀name,PySem.W.lookIn name od=some (mA name):=by
 obtain⟨o,es,ep,ho,hd,hk,_,hm⟩:=n
 refine⟨o,ho,fun name =>?_⟩
 have e:=hm name
 unfold nsFind findBy at e
 rw[<-Array.find?_toList] at e
 unfold PySem.W.lookIn
 rw[hd]
 dsimp only
 split
 ·rename_i y q
  rw[q] at e
  exact congrArg some e
 ·rename_i q
  rw[q] at e
  have a:es.toList.any (·.refKey)=false:=by
   rw[List.any_eq_false]
   intro y hy
   obtain⟨z,t,xv⟩:=hk y (Array.mem_toList_iff.mp hy)
   simp[DictEntry.refKey,xv]
  have a':¬es.toList.any (·.refKey)=true:=by rw[a];exact Jm
  rw[if_neg a']
  exact congrArg some e
theorem DQ.look {h:Heap}{x dx C:Addr}{mA:Str->Option Value}(I:DQ h x dx C mA):∃od,PySem.W.InstAt h x (PySem.W.instObj C dx) C (some od)/\∀name,PySem.W.lookIn name od=some (mA name):=
 let ⟨od,ho,hl⟩:=vo I.ns
 ⟨od,⟨I.obj,rfl,rfl,ho⟩,hl⟩
theorem kH.some_of {v:V}{o:Option Value}(r:kH (some v) o):∃u,o=some u/\RelV v u:=by
 cases o with
 | none=>exact(show False from r).elim
 | some u=>exact⟨u,rfl,r⟩
section
variable {P:Program}{w:World}{H H':Hp}{h h':Heap}{a C dx:Addr}{fs oq:List (Str×V)}
theorem AG (aR:fZ P w H h)(e:H a=some (.ins C dx fs)):∃mA,DQ h a dx C mA/\(∀f,kH (fs.lookup f) (mA f))/\PySem.Within mA (fs.map (·.1))/\fs.length<=1000/\H dx=some (.own a):=by
 obtain⟨d,z,ne,ob,mA,n,r,q⟩:=(show bq P w H h a (.ins C dx fs) from aR a _ e)
 exact⟨mA,⟨ob,n,ne⟩,r,q,z,d⟩
end
structure Lk (K:Jc)(C:Addr):Prop where
 pg:PySem.W.plainGet K C Str.empty=true
 hd:PySem.W.hasDictIn K C=true
 po:PySem.W.plainOver K C=true
 sa:PySem.W.findIn K (.ref C) "__setattr__" = some (some (.builtin "object.__setattr__"))
theorem Lk.get {K:Jc}{C:Addr}(c:Lk K C)(f:Str):PySem.W.plainGet K C f=true:=c.pg
section
variable {X:Cx}{pins:List (Addr×Obj)}{σ:St}{H:Hp}{s:Shared}{A:Around}{E:Value->Shared->Prop}{Q:Value->Shared->Prop}{c:Value}{b:Bool}
inductive iZ (K:Jc)(H:Hp):V->Value->Prop where
 | non:iZ K H .non (.type "NoneType")
 | bl (x:Bool):iZ K H (.bl x) (.type "bool")
 | int (i:Int):iZ K H (.int i) (.type "int")
 | str (x:Str):iZ K H (.str x) (.type "str")
 | flt (x:UInt64):iZ K H (.flt x) (.type "float")
 | lst {a:Addr} {xs:List V} (e:H a=some (.lst xs)):iZ K H (.ref a) (.type "list")
 | frz {a:Addr} {o:Obj} {xs:List V} (e:H a=some (.frz o (.lst xs))):iZ K H (.ref a) (.type "list")
 | tup {a:Addr} {xs:List V} (e:H a=some (.tup xs)):iZ K H (.ref a) (.type "tuple")
 | dK {a:Addr} {kvs:List (Key×V)} (e:H a=some (.dK kvs)):iZ K H (.ref a) (.type "dict")
 | dT {a:Addr} {kvs:List (List Key×V)} (e:H a=some (.dT kvs)):iZ K H (.ref a) (.type "dict")
 | ins {a C dx:Addr} {fs:List (Str×V)} (e:H a=some (.ins C dx fs)) (cl:Lk K C) (ha:PySem.W.findIn K (.ref C) "__class__" = some (some (.builtin "object.__class__")))
   (hn:PySem.W.specialIn K (.builtin "object.__class__") "__get__" = some (some (.builtin "getset_descriptor.__get__"))) (cD:PySem.W.takesIn K (.builtin "object.__class__")=some true)
   (hm:PySem.W.mroIn K C (.type "object")=some true):iZ K H (.ref a) (.ref C)
theorem vk {x:V}{u t:Value}(I:Inv X pins σ H s)(rx:RelV x u)(ty:iZ X.K H x t)(e:Yw X.K t c=some b)(h:∀tk,Q (.bool b) { s with toks:=tk }):
  wpAny (model X.prog X.w) A (call (.builtin "isinstance") [u,c]) Q E s:=by
 cases ty with
 | non=>cases (show u=Value.none from rx);exact Yf PySem.W.kitx_none I.mH True.intro e (fun z=>nomatch z) h
 | bl y=>cases (show u=Value.bool y from rx);exact Yf PySem.W.kitx_bool I.mH True.intro e (fun z=>nomatch z) h
 | int i=>obtain⟨t,q⟩:=(show ∃t,u=Value.int i t from rx);cases q;exact Yf PySem.W.kitx_int I.mH True.intro e (fun z=>nomatch z) h
 | str y=>obtain⟨t,q⟩:=(show ∃t,u=Value.str y t from rx);cases q;exact Yf PySem.W.kitx_str I.mH True.intro e (fun z=>nomatch z) h
 | flt y=>obtain⟨t,q⟩:=(show ∃t,u=Value.float y t from rx);cases q;exact Yf PySem.W.kitx_float I.mH True.intro e (fun z=>nomatch z) h
 | @lst a xs ea=>
  cases (show u=Value.ref a from rx)
  obtain⟨_,_,n,_,h1⟩:=(show bq X.prog X.w H s.heap a (.lst xs) from I.aR a _ ea)
  exact Yf PySem.W.kitx_list I.mH ⟨_,h1,rfl⟩ e (fun z=>nomatch z) h
 | @frz a ob xs ea=>
  cases (show u=Value.ref a from rx)
  obtain⟨_,_,_,n,_,h1⟩:=(show bq X.prog X.w H s.heap a (.frz ob (.lst xs)) from I.aR a _ ea)
  exact Yf PySem.W.kitx_list I.mH ⟨_,h1,rfl⟩ e (fun z=>nomatch z) h
 | @tup a xs ea=>
  cases (show u=Value.ref a from rx)
  obtain⟨_,_,_,p⟩:=(show bq X.prog X.w H s.heap a (.tup xs) from I.aR a _ ea)
  obtain⟨o,h1,h2,_⟩:=p
  exact Yf PySem.W.kitx_tuple I.mH ⟨o,h1,h2⟩ e (fun z=>nomatch z) h
 | @dK a kvs ea=>
  cases (show u=Value.ref a from rx)
  obtain⟨_,_,vs,_,p⟩:=(show bq X.prog X.w H s.heap a (.dK kvs) from I.aR a _ ea)
  obtain⟨o,es,ep,h1,h2,_⟩:=p
  exact Yf PySem.W.kitx_dict I.mH ⟨o,h1,h2.1⟩ e (fun z=>nomatch z) h
 | @dT a kvs ea=>
  cases (show u=Value.ref a from rx)
  obtain⟨_,_,xs,_,o,es,ep,h1,h2,_⟩:=(show bq X.prog X.w H s.heap a (.dT kvs) from I.aR a _ ea)
  exact Yf PySem.W.kitx_dict I.mH ⟨o,h1,h2.1⟩ e (fun z=>nomatch z) h
 | @ins a C dx fs ea cl ha hn cD hm=>
  cases (show u=Value.ref a from rx)
  obtain⟨mA,O,_⟩:=AG I.aR ea
  obtain⟨od,J,_⟩:=O.look
  exact Yf (PySem.W.kitx_own (cl.get _) cl.hd ha hn cD hm) I.mH J e (fun z=>nomatch z) h
end
structure dS (k:Nat)(A:Around):Prop where
 hd:A.handled=none
 dp:A.depth+3*k+5<recursionLimit
 un:A.units+16*k+200<cLine
 gd:A.guards=some []
theorem dS.mono {j k:Nat}{A:Around}(r:dS k A)(h:j<=k):dS j A:=⟨r.hd,by have:=r.dp;omega,by have:=r.un;omega,r.gd⟩
theorem dS.deeper {k:Nat}{A:Around}(r:dS (k+1) A)(env:Env):dS k (A.deeper env):=
 ⟨r.hd,by have:=r.dp;show A.depth+1+3*k+5<_;omega,by have:=r.un;show A.units+3+16*k+200<_;omega,r.gd⟩
theorem dS.in1 {k:Nat}{A:Around}(r:dS (k+1) A):dS k A.in1:=
 ⟨r.hd,by have:=r.dp;show A.depth+3*k+5<_;omega,by have:=r.un;show A.units+1+16*k+200<_;omega,r.gd⟩
theorem dS.depth {k:Nat}{A:Around}(r:dS k A):A.depth<recursionLimit:=by have:=r.dp;omega
theorem dS.units {k:Nat}{A:Around}(r:dS k A):A.units+64<cLine:=by have:=r.un;omega
noncomputable def AK:TA:=fun _ H Q=>Q [] H
noncomputable def tx (ta:TE)(tr:TA):TA:=fun σ H Q=>ta σ H fun x H1=>tr σ H1 fun xs H2=>Q (x::xs) H2
section
variable {X:Cx}{e:Expr}{es:List Expr}{te:TE}{t:TA}{pos:Pos}
theorem ag:PA X [] AK:=fun _ _ _ _ H Q I h=>Calls.spliced_nil ⟨[],H,I,.nil,h⟩
theorem aa (ha:PE X e te)(hr:PA X es t)(hs:starEach (e::es) X.env=(false,eval e X.env)::starEach es X.env:=by rfl):PA X (e::es) (tx te t):=by
 intro pos pins s σ H Q I h
 rw[hs]
 show wpAny _ _ (spliced ((false,eval e X.env)::backTo pos (starEach es X.env))) _ _ s
 refine Calls.spliced_cons (aZ (ha s σ H _ I h) fun u s1 hz_ =>?_)
 refine ae.el hz_ _ ?_
 clear hz_
 rintro x H1 I1 r1 q1
 exact aZ (hr s1 σ H1 _ I1 q1) fun us s2 hz_=>ae.el hz_ _ fun xs H2 I2 r2 q2=>⟨x::xs,H2,I2,.cons r1 r2,q2⟩
def Hs (t:TA):TE:=fun σ H Q=>t σ H fun xs H1=>xs.length<=sizeLine/\∀p,H1 p=none->Q (.ref p) (upd H1 p (.tup xs))
def Hu (t:TA):TE:=fun σ H Q=>t σ H fun xs H1=>xs.length<=sizeLine/\∀p,H1 p=none->Q (.ref p) (upd H1 p (.lst xs))
theorem Dk {x1}(h:PA X es t):PE X (.Tuple es x1 pos) (Hs t):=by
 intro pins s σ H Q I hq
 refine wpAny_Tuple_spliced (aZ (h s σ H _ I hq) fun us s1 ⟨xs,H1,I1,r,z,q⟩=>⟨by rw[<-r.length];exact z,?_⟩)
 have hf:H1 s1.heap.objs.size=none:=I1.aR.fresh (Jf _)
 refine⟨.ref s1.heap.objs.size,upd H1 s1.heap.objs.size (.tup xs),I1.laid (t':=s1.toks) (fun b u e=>Jb _ e) (Jf _) ?_,rfl,q _ hf⟩
 exact⟨z,us,r,⟨_,Jo _ rfl,rfl,_,rfl⟩⟩
theorem CG (h:PA X es t):PE X (.List es pos) (Hu t):=by
 intro pins s σ H Q I hq
 refine wpAny_List_spliced (aZ (h s σ H _ I hq) fun us s1 ⟨xs,H1,I1,r,z,q⟩=>⟨by rw[<-r.length];exact z,?_⟩)
 have hf:H1 s1.heap.objs.size=none:=I1.aR.fresh (Jf _)
 refine⟨.ref s1.heap.objs.size,upd H1 s1.heap.objs.size (.lst xs),I1.laid (t':=s1.toks) (fun b u e=>Jb _ e) (Jf _) ?_,rfl,q _ hf⟩
 exact⟨z,us,0,r,Jo _ rfl⟩
end
abbrev Sp:=List V->Hp->VK->XK->Prop
abbrev uY:=List Env->Hp->Shared->XK->Value->Shared->Prop
structure rM (P:Program)(w:World)(K:Jc)(mg:Str->Option Value)(base:Heap)(A:Around)(outer:List Env)(s:Shared)(H:Hp):Prop where
 frames:A.frames=some outer
 mod:Mod K mg base
 bs:∀b o,base.get? b=some o->s.heap.get? b=some o/\H b=none
 bsz:base.objs.size<=s.heap.objs.size
 jF:s.heap.FunFrames base outer
 wj:∀b∈m5 outer,H b=none
 aR:fZ P w H s.heap
 bare:AllBare s.gens
def CE (outer:List Env)(P:Program)(w:World)(H:Hp)(s:Shared)(Q:VK)(u:Value)(s':Shared):Prop:=
 bO fun v H'=>s'.os=s.os/\AllBare s'.gens/\Un (m5 outer) [] H H' s.heap s'.heap/\fZ P w H' s'.heap/\RelV v u/\Q v H'
def CR (CX:uY)(outer:List Env)(P:Program)(w:World)(H:Hp)(s:Shared)(Q:VK)(E:XK)(r:Result)(s':Shared):Prop:=
 match r with
 | .ok (.ret u)=>CE outer P w H s Q u s'
 | .ok _=>False
 | .error e=>CX outer H s E e s'
structure bI (P:Program)(w:World)(K:Jc)(mg:Str->Option Value)(base:Heap)(CX:uY)(k:Nat)(f:Addr)(fd:FuncData)(ps:List Str)(sp:Sp):Prop where
 len:∀vs H Q E,sp vs H Q E->vs.length=ps.length
 run:∀(A:Around) (outer:List Env) (s:Shared) (H:Hp) (args:Args) (us:List Value) (vs:List V) (Q:VK) (E:XK),dS k A->rM P w K mg base A outer s H->BindsTo s fd args (ps.zip us)->Vals vs us->sp vs H Q E ->
  codeAny (model P w) A (.call (.ref f) args) (CR CX outer P w H s Q E) s
theorem bI.mono {P:Program}{w:World}{K:Jc}{mg:Str->Option Value}{base:Heap}{CX:uY}{j k:Nat}{f:Addr}{fd:FuncData}{ps:List Str}{sp:Sp}(F:bI P w K mg base CX j f fd ps sp)(h:j<=k):
  bI P w K mg base CX k f fd ps sp:=⟨F.len,fun A outer s H args us vs Q E hr=>F.run A outer s H args us vs Q E (hr.mono h)⟩
theorem bI.imp {P:Program}{w:World}{K:Jc}{mg:Str->Option Value}{base:Heap}{CX:uY}{k:Nat}{f:Addr}{fd:FuncData}{ps:List Str}{sp Hw:Sp}(F:bI P w K mg base CX k f fd ps sp)
  (h:∀vs H Q E,Hw vs H Q E->sp vs H Q E):bI P w K mg base CX k f fd ps Hw:=
 ⟨fun vs H Q E q=>F.len vs H Q E (h _ _ _ _ q),fun A outer s H args us vs Q E hr he hb hv hs=>F.run A outer s H args us vs Q E hr he hb hv (h _ _ _ _ hs)⟩
theorem rM.in1 {P:Program}{w:World}{K:Jc}{mg:Str->Option Value}{base:Heap}{A:Around}{outer:List Env}{s:Shared}{H:Hp}(e:rM P w K mg base A outer s H):
  rM P w K mg base A.in1 outer s H:=⟨e.frames,e.mod,e.bs,e.bsz,e.jF,e.wj,e.aR,e.bare⟩
section
variable {X:Cx}{pins:List (Addr×Obj)}{σ:St}{H:Hp}{s s':Shared}
theorem Inv.Cd (I:Inv X pins σ H s):rM X.prog X.w X.K X.mg X.base X.A X.stack s H:=
 ⟨I.ok.frames,I.ok.mod,I.bs,Ju I.ok.bsz I.sz,I.stack,I.uh,I.aR,I.bare⟩
theorem Inv.after {Q:VK}{u:Value}(I:Inv X pins σ H s)(h:CE X.stack X.prog X.w H s Q u s'):EP X pins σ Q u s':=by
 obtain⟨v,H',os,bare,un,aR,r,q⟩:=h
 obtain⟨hh,g,d,t,os'⟩:=s'
 obtain rfl:os'=s.os:=os
 exact⟨v,H',I.call (h':=hh) (g':=g) (d':=d) (t':=t) (ch:=[]) un aR bare (fun b z=>absurd z (by simp)),r,q⟩
end
def BM (sp:Sp)(BI:List V)(E:XK)(t:TA):TE:=fun σ H Q=>t σ H fun vs H1=>sp (vs++BI) H1 Q E
def Binds (K:Jc)(fd:FuncData)(ps:List Str)(ds:List Value):Prop:=
 ∀(s:Shared) (us:List Value),K.In s.heap->(us++ds).length=ps.length->BindsTo s fd ⟨us,[]⟩ (ps.zip (us++ds))
theorem Binds.all {K:Jc}{fd:FuncData}{ps:List Str}(h:∀us:List Value,us.length=ps.length->bindArgs fd ⟨us,[]⟩=pure (ps.zip us)):Binds K fd ps []:=fun s us _ hl=>by
 rw[Uo] at hl ⊢
 exact .of_eq (h us hl)
def Passes (CX:uY)(X:Cx)(E:XK):Prop:=∀(pins:List (Addr×Obj)) (σ:St) (H:Hp) (s:Shared) (e:Value) (s':Shared),Inv X pins σ H s->CX X.stack H s E e s'->X.xe e s'
section
variable {X:Cx}{CX:uY}{k:Nat}{f C:Addr}{fd:FuncData}{ps:List Str}{sp:Sp}{BI:List V}{ds:List Value}{E:XK}{x m:Str}{p pos apos:Pos}{e o:Expr}{es:List Expr}{ta:TE}{t:TA}
theorem Ci {pins:List (Addr×Obj)}{σ:St}{H:Hp}{s:Shared}{Q:VK}{us:List Value}{vs:List V}(F:bI X.prog X.w X.K X.mg X.base CX k f fd ps sp)(hr:dS k X.A)(hb:Binds X.K fd ps ds)(hd:Vals BI ds)(hx:Passes CX X E)
  (I:Inv X pins σ H s) (r:Vals vs us) (h:sp (vs++BI) H Q E):wpAny (model X.prog X.w) X.A (call (.ref f) us) (EP X pins σ Q) X.xe s:=by
 have r2:Vals (vs++BI) (us++ds):=r.append hd
 have hl:(us++ds).length=ps.length:=by rw[<-r2.length];exact F.len _ _ _ _ h
 refine wpAny_call (codeAny_mono (F.run X.A X.stack s H ⟨us,[]⟩ (us++ds) (vs++BI) Q E hr I.Cd (hb s us I.mH hl) r2 h) fun r s' hq =>?_)
 cases r with
 | error e=>exact hx pins σ H s e s' I hq
 | ok fl=>
  cases fl with
  | ret u=>exact I.after hq
  | next=>exact False.elim hq
  | brk=>exact False.elim hq
  | cont=>exact False.elim hq
theorem zV (F:bI X.prog X.w X.K X.mg X.base CX k f fd ps sp)(hr:dS k X.A)(hg:Gl X x)(hm:X.mg x=some (.ref f))(hk:PySem.W.keepIn X.K (.ref f)=true)(hb:Binds X.K fd ps ds)(hd:Vals BI ds)(hx:Passes CX X E)
  (ha:PA X (e::es) t) (xM:(x==("__debug__" : Str))=false:=by decide) (he:starEach (e::es) X.env=(false,eval e X.env)::starEach es X.env:=by rfl) (mG:(backTo pos (starEach es X.env)).any (·.1)=false:=by rfl) :
  PE X (.Call (.Name x p) (e::es) [] pos) (BM sp BI E t):=by
 intro pins s σ H Q I h
 refine wpAny_Call_Name_kw (tj I hg hm ?_ xM)
 refine PySem.W.callWith_K (h₀:=X.base) I.ok.mod.kin hk (aZ (ha s σ H _ I h) fun us s1 hz_=>ae.el hz_ _ fun vs H1 I1 r q=>⟨I1.mH,?_⟩) he mG
 exact Ci F hr hb hd hx I1 r q
end
def PK (X:Cx)(yE:List Keyword)(t:TA):Prop:=
 ∀ ⦃pos:Pos⦄ ⦃pins:List (Addr×Obj)⦄ (s:Shared) (σ:St) (H:Hp) (Q:List V->Hp->Prop),Inv X pins σ H s->t σ H Q->wpAny (model X.prog X.w) X.A (evalAll ((backToKw pos (keywordEach yE X.env)).map (·.2))) (AP X pins σ Q) X.xe s
section
variable {X:Cx}{CX:uY}{k:Nat}{f C:Addr}{fd:FuncData}{ps ks:List Str}{sp:Sp}{E:XK}{x m:Str}{p pos apos LL:Pos}{e o:Expr}{es:List Expr}{yE:List Keyword}{te ta:TE}{t tk:TA}{nm:Option Str}
theorem rX:PK X [] AK:=fun _ _ _ _ H Q I h=>wpAny_evalAll_nil ⟨[],H,I,.nil,h⟩
theorem oG (ha:PE X e te)(hr:PK X yE t):PK X (⟨nm,e,LL⟩::yE) (tx te t):=by
 intro pos pins s σ H Q I h
 show wpAny _ _ (evalAll ((do let v <-eval e X.env;standAt pos;pure v)::(backToKw pos (keywordEach yE X.env)).map (·.2))) _ _ s
 refine wpAny_evalAll_cons (wpAny_bind (aZ (ha s σ H _ I h) fun u s1 hz_=>ae.el hz_ _ fun x H1 I1 r1 q1=>wpAny_bind (wpAny_standAt (wpAny_pure ?_))))
 exact aZ (hr s1 σ H1 _ I1 q1) fun us s2 hz_=>ae.el hz_ _ fun xs H2 I2 r2 q2=>⟨x::xs,H2,I2,.cons r1 r2,q2⟩
variable {g:List Value->List Value->List Value}{gV:List V->List V->List V}
end
structure aN (N P:List Str)(sc:Scope):Prop where
 kind:sc.kind = .function
 co:sc.isCoroutine=false
 gen:sc.isGenerator=false
 nd:N.Nodup
 pre:N.take P.length=P
 par:∀x∈P,sc.names.lookup x=some .local∨sc.names.lookup x=some .cell
 nofree:∀y∈sc.names,y.2 ≠ .free
theorem mh {kindOf:Str->Option NameKind}{x:Str}:∀{binds:List (Str×Value)} {m:Str->Option Value},(∀v,(x,v)∉binds)->bindL kindOf binds m x=m x
 | [],_,_=>rfl
 | (n,v)::r,m,h=>by
  unfold bindL
  rw[mh fun w hw=>h w (Jq _ hw)]
  split
  ·have:x≠n:=by rintro rfl;exact h v Js
   simp[this]
  ·rfl
theorem mD {kindOf:Str->Option NameKind}{x:Str}:∀{binds:List (Str×Value)} {m:Str->Option Value},(∀v,(x,v)∉binds)->bindC kindOf binds m x=m x
 | [],_,_=>rfl
 | (n,v)::r,m,h=>by
  unfold bindC
  rw[mD fun w hw=>h w (Jq _ hw)]
  split
  ·rfl
  ·have:x≠n:=by rintro rfl;exact h v Js
   simp[this]
theorem my {kindOf:Str->Option NameKind}{x:Str}{v:Value}:∀{P:List Str} {vs:List Value} {i:Nat} {m:Str->Option Value},P.Nodup->P[i]? = some x->vs[i]? = some v->kindOf x=some .local ->
  bindL kindOf (P.zip vs) m x=some v
 | [],_,_,_,_,h,_,_=>by simp at h
 | _::_,[],_,_,_,_,h,_=>by simp at h
 | p::P,w::vs,0,m,nd,h1,h2,hk=>by
  simp at h1 h2;subst h1;subst h2
  show bindL kindOf ((p,w)::P.zip vs) m p=_
  unfold bindL
  rw[mh fun v hv=>(U2.mp nd).1 (Wh hv).1,if_pos hk]
  simp
 | p::P,w::vs,i+1,m,nd,h1,h2,hk=>by
  show bindL kindOf ((p,w)::P.zip vs) m x=_
  unfold bindL
  exact my (i:=i) (U2.mp nd).2 (by simpa using h1) (by simpa using h2) hk
theorem mP {kindOf:Str->Option NameKind}{x:Str}{v:Value}:∀{P:List Str} {vs:List Value} {i:Nat} {m:Str->Option Value},P.Nodup->P[i]? = some x->vs[i]? = some v->kindOf x≠some .local ->
  bindC kindOf (P.zip vs) m x=some v
 | [],_,_,_,_,h,_,_=>by simp at h
 | _::_,[],_,_,_,_,h,_=>by simp at h
 | p::P,w::vs,0,m,nd,h1,h2,hk=>by
  simp at h1 h2;subst h1;subst h2
  show bindC kindOf ((p,w)::P.zip vs) m p=_
  unfold bindC
  rw[mD fun v hv=>(U2.mp nd).1 (Wh hv).1,if_neg hk]
  simp
 | p::P,w::vs,i+1,m,nd,h1,h2,hk=>by
  show bindC kindOf ((p,w)::P.zip vs) m x=_
  unfold bindC
  exact mP (i:=i) (U2.mp nd).2 (by simpa using h1) (by simpa using h2) hk
noncomputable def start (N:List Str)(vs:List V):St:=vs.map some++Jp (N.length-vs.length) none
noncomputable def om (CX:uY)(P:Program)(w:World)(K:Jc)(mg:Str->Option Value)(base:Heap)(N:List Str)(qual:Str)(scope:Scope)(f:Addr)(cd:Value)(A:Around)(outer:List Env)(s:Shared)(H:Hp)(E:XK):Cx where
 prog:=P
 w:=w
 K:=K
 mg:=mg
 base:=base
 A:=A.deeper (envOfC qual scope s.heap.objs.size f cd)
 N:=N
 s₀:=s
 H₀:=H
 env:=envOfC qual scope s.heap.objs.size f cd
 outer:=outer
 stack:=envOfC qual scope s.heap.objs.size f cd::outer
 ex:=[]
 calm:=true
 fn:=fun _=>true
 pn:=[]
 xe:=fun e s'=>wpAny (model P w) (A.deeper (envOfC qual scope s.heap.objs.size f cd)) (leaving (envOfC qual scope s.heap.objs.size f cd) e) (fun _ s''=>CX outer H s E e s'') (fun e' s''=>CX outer H s E e' s'') s'
theorem pQ {sc:Scope}{n:Nat}{x:Str}(h:sc.names.lookup x=some .cell):∃c,(cellsFrom n sc.names []).lookup x=some c:=by
 have q:=PySem.W.cellsFrom_some sc.names n [] (.inl h)
 exact Option.isSome_iff_exists.mp q
theorem mN {CX:uY}{P:Program}{w:World}{K:Jc}{mg:Str->Option Value}{base:Heap}{N ps:List Str}{qual:Str}{scope:Scope}{f:Addr}{cd:Value}{A:Around}{outer:List Env}{s s1:Shared}{H:Hp}{E:XK}{us:List Value}{vs:List V}
  (S:aN N ps scope) (hd:A.handled=none) (e0:rM P w K mg base A outer s H) (hl:vs.length=ps.length) (r:Vals vs us)
  (x:InCallC s s.heap.objs.size (bindL (envOfC qual scope s.heap.objs.size f cd).kindOf (ps.zip us) fun _=>none) (cellsFrom (s.heap.objs.size+1) scope.names []) (bindC (envOfC qual scope s.heap.objs.size f cd).kindOf (ps.zip us) fun _=>none) s1) :
  Inv (om CX P w K mg base N qual scope f cd A outer s H E) [] (start N vs) H s1:=by
 have mG:ps.length<=N.length:=by have:=congrArg J9 S.pre;rw[J6] at this;omega
 obtain⟨h1,tk,rfl,hk⟩:=x.done
 have Lr:∀b:Addr,b∉(om CX P w K mg base N qual scope f cd A outer s H E).ex:=fun b z=>absurd (show b∈([]:List Addr) from z) (by simp)
 refine⟨⟨e0.mod,S.kind,rfl,rfl,Jf _,fun y z c h1 h2 =>?_,fun y hy =>?_,fun y c _ h =>?_,fun _=>hd,Around.frames_deeper e0.frames,.inr ⟨rfl,rfl⟩,fun b z=>absurd z (Lr b),e0.bs,e0.bsz,fun b _ _=>Lr b,fun b z=>absurd z (Lr b),e0.jF,e0.wj⟩,
  rfl,e0.bare,Un.kept hk,⟨_,x.toInCall.ns,fun i y v h1 h2 h3 =>?_⟩,fun y c h=>⟨_,x.cell y c h⟩,e0.aR.fresh (Jf _),fun y c h =>?_,fun p hp=>absurd (show p∈([]:List (Addr×Obj)) from hp) (by simp),e0.aR.kept hk,?_⟩
 ·exact name_of_addr x.apart (PySem.mem_of_lookup h1) (PySem.mem_of_lookup h2)
 ·have hy:scope.names.lookup y=some .cell∨scope.names.lookup y=some .free:=hy
  rcases hy with hy|hy
  ·exact pQ hy
  ·exact absurd rfl (S.nofree _ (PySem.mem_of_lookup hy))
 ·exact Uy (x.above y c (PySem.mem_of_lookup h))
 ·have hi:i<vs.length:=by
   unfold start at h2
   by_cases hi:i<vs.length
   ·exact hi
   ·rw[Ud (by simpa using hi)] at h2
    rw[Yu] at h2
    split at h2<;>cases h2
  have ha:vs[i]? = some v:=by
   unfold start at h2
   rw[Ul (by simpa using hi),Jl] at h2
   cases e:vs[i]? with
   | none=>rw[e] at h2;cases h2
   | some a=>rw[e] at h2;cases h2;rfl
  obtain⟨u,hu,rv⟩:=r.get ha
  have hp:ps[i]? = some y:=by
   rw[<-S.pre,List.getElem?_take_of_lt (by omega)];exact h1
  have Oy:ps.Nodup:=by rw[<-S.pre];exact S.nd.sublist (Y8 _ _)
  refine⟨u,rv,?_⟩
  rcases S.par y (Y4 hp) with k|k
  ·exact .inl ⟨k,my Oy hp hu k⟩
  ·obtain⟨c,e⟩:=pQ (n:=s.heap.objs.size+1) k
   refine .inr ⟨.inl k,c,e,?_⟩
   have q:=x.cell y c e
   rw[mP Oy hp hu (by show scope.names.lookup y≠_;rw[k];decide)] at q
   exact q
 ·exact e0.aR.fresh (Uy (x.above y c (PySem.mem_of_lookup h)))
 ·unfold start
  show _=N.length
  rw[Je,Ja,Uk]
  omega
theorem BF {CX:uY}{P:Program}{w:World}{K:Jc}{mg:Str->Option Value}{base:Heap}{k:Nat}{f:Addr}{name qual:Str}{params:Arguments}{body:List Stmt}{scope:Scope}{dV kV doc pm d9 ct oc:Value}{an od:Option Addr}
  {zx:Array (Option Value)} {N ps:List Str} {sp:Sp} (lk:K.lookup f=some ⟨oc,od,.func (Wk name qual params body scope dV kV doc pm an d9 ct),zx⟩) (qx:PySem.W.codeIn K d9 qual=true) (S:aN N ps scope)
  (len:∀vs H Q E,sp vs H Q E->vs.length=ps.length)
  (kN:∀(A:Around) (outer:List Env) (s:Shared) (H:Hp) (vs:List V) (Q:VK) (E:XK),dS k (A.deeper (envOfC qual scope s.heap.objs.size f d9))->sp vs H Q E ->
   ∃t,tK (om CX P w K mg base N qual scope f d9 A outer s H E) body t/\t { nx:=fun _ H'=>Q .non H',rt:=Q } (start N vs) H) :
  bI P w K mg base CX (k+1) f (Wk name qual params body scope dV kV doc pm an d9 ct) ps sp:=by
 refine⟨len,fun A outer s H args us vs Q E hr e0 hb r rK =>?_⟩
 have hl:=len _ _ _ _ rK
 have KX:K.In s.heap:=e0.mod.kin.keeps fun b o e=>(e0.bs b o e).1
 have lim:s.heap.NoLimit:=e0.mod.nolimit.keeps fun b o e=>(e0.bs b o e).1
 have x9:∀y∈ps.zip us,scope.names.lookup y.1=some .local∨(scope.names.lookup y.1=some .cell/\((cellsFrom (s.heap.objs.size+1) scope.names []).lookup y.1).isSome=true):=fun⟨n,v⟩ hy=>by
  rcases S.par n (Wh hy).1 with q|q
  ·exact .inl q
  ·exact .inr ⟨q,PySem.W.cellsFrom_some _ _ _ (.inl q)⟩
 refine codeAny_call_function hr.depth (KX _ _ lk) rfl S.co S.gen rfl (PySem.W.codeRec_of KX qx) (hb _ _ _ _ ?_)
 refine wpAny_newFunctionEnv_cells S.kind x9 fun env he s1 x =>?_
 subst he
 refine⟨lim.keeps x.toInCall.keep,codeAny_func ?_⟩
 obtain⟨t,ht,hq⟩:=kN A outer s H vs Q E (hr.deeper _) rK
 have I:Inv (om CX P w K mg base N qual scope f d9 A outer s H E) [] (start N vs) H s1:=mN S hr.hd e0 hl r x
 refine wpAny_mono (ht s1 (start N vs) H _ I hq) (fun fl s' hs =>?_) fun e s' hs=>hs
 have fin:∀{σ':St} {H':Hp} {v:V} {u:Value},Inv (om CX P w K mg base N qual scope f d9 A outer s H E) [] σ' H' s'->RelV v u->Q v H'->CE outer P w H s Q u s':=
  fun{σ' H' v u} J rv q=>⟨v,H',J.os,J.bare,J.base,J.aR,rv,q⟩
 cases fl with
 | ret u=>
  obtain⟨v,σ',H',J,rv,q⟩:=hs
  exact fin J rv q
 | next=>
  obtain⟨σ',H',J,q⟩:=hs
  exact fin (v:=V.non) (u:=Value.none) J rfl q
 | brk=>
  obtain⟨_,_,_,q⟩:=hs
  exact False.elim q
 | cont=>
  obtain⟨_,_,_,q⟩:=hs
  exact False.elim q
section
variable {X:Cx}{x:Str}{p pos:Pos}{e:Expr}{es:List Expr}{t:TA}{id T:String}{r:List V->Hp->VK->Prop}
def Iq (r:List V->Hp->VK->Prop)(t:TA):TE:=fun σ H Q=>t σ H fun vs H1=>r vs H1 Q
theorem aq (hc:bU X (.builtin id) r)(hg:Gl X x)(hm:X.mg x=none)(hv:bootBuiltins x=some (.builtin id))(ha:PA X (e::es) t)(hn:x ≠ "__name__":=by decide)(xM:(x==("__debug__" : Str))=false:=by decide)
  (he:starEach (e::es) X.env=(false,eval e X.env)::starEach es X.env:=by rfl) (mG:(backTo pos (starEach es X.env)).any (·.1)=false:=by rfl):PE X (.Call (.Name x p) (e::es) [] pos) (Iq r t):=by
 intro pins s σ H Q I h
 refine wpAny_Call_Name_kw (fW I hg hm hv ?_ hn xM)
 exact PyProof.Rows.callWith_builtin1 (aZ (ha s σ H _ I h) fun us s1 hz_=>ae.el hz_ _ fun vs H1 I1 r1 q1=>hc s1 σ H1 vs us Q I1 r1 q1) he mG
theorem eI (hc:bU X (.type T) r)(hg:Gl X x)(hm:X.mg x=none)(hv:bootBuiltins x=some (.type T))(ha:PA X (e::es) t)(hn:x ≠ "__name__":=by decide)(xM:(x==("__debug__" : Str))=false:=by decide)
  (he:starEach (e::es) X.env=(false,eval e X.env)::starEach es X.env:=by rfl) (mG:(backTo pos (starEach es X.env)).any (·.1)=false:=by rfl):PE X (.Call (.Name x p) (e::es) [] pos) (Iq r t):=by
 intro pins s σ H Q I h
 refine wpAny_Call_Name_kw (fW I hg hm hv ?_ hn xM)
 exact PyProof.Rows.callWith_type1 (aZ (ha s σ H _ I h) fun us s1 hz_=>ae.el hz_ _ fun vs H1 I1 r1 q1=>hc s1 σ H1 vs us Q I1 r1 q1) he mG
end
section
variable {κ:Type}[DecidableEq κ]
noncomputable def av (kvs:List (κ×V))(k: κ):Option V:=(kvs.find? fun kv=>decide (kv.1=k)).map (·.2)
noncomputable def putK (kvs:List (κ×V))(k: κ)(v:V):List (κ×V):=
 if (kvs.any fun kv=>decide (kv.1=k))=true then kvs.map (fun kv=>if kv.1=k then (kv.1,v) else kv) else kvs++[(k,v)]
theorem cw {p: κ×V}{r:List (κ×V)}{k: κ}(e:p.1=k):av (p::r) k=some p.2:=by simp[av,List.find?_cons,e]
theorem bZ {p: κ×V}{r:List (κ×V)}{k: κ}(e:¬p.1=k):av (p::r) k=av r k:=by simp[av,List.find?_cons,e]
theorem dQ (k: κ):∀kvs:List (κ×V),(kvs.any fun kv=>decide (kv.1=k))=(av kvs k).isSome
 | []=>rfl
 | p::r=>by
  rw[List.any_cons]
  by_cases e:p.1=k
  ·simp only[cw e,decide_eq_true e,Bool.true_or,Option.isSome_some]
  ·rw[bZ e,decide_eq_false e,Bool.false_or];exact dQ k r
theorem pW (k j: κ)(y:V):∀kvs:List (κ×V),av (kvs.map fun kv=>if kv.1=k then (kv.1,y) else kv) j=(av kvs j).map fun x=>if j=k then y else x
 | []=>rfl
 | p::r=>by
  have ih:=pW k j y r
  rw[Uc]
  by_cases h:p.1=k
  ·rw[if_pos h]
   by_cases e:p.1=j
   ·rw[cw (p:=(p.1,y)) e,cw e,Option.map_some,if_pos (e.symm.trans h)]
   ·rw[bZ (p:=(p.1,y)) e,bZ e,ih]
  ·rw[if_neg h]
   by_cases e:p.1=j
   ·rw[cw (p:=p) e,cw e,Option.map_some,if_neg (fun z=>h (e.trans z))]
   ·rw[bZ (p:=p) e,bZ e,ih]
theorem mK (k j: κ)(y:V):∀kvs:List (κ×V),av kvs k=none->av (kvs++[(k,y)]) j=if j=k then some y else av kvs j
 | [],_=>by
  by_cases e:k=j
  ·rw[if_pos e.symm];exact cw (p:=(k,y)) e
  ·rw[if_neg (fun z=>e z.symm)];exact bZ (p:=(k,y)) e
 | p::r,hn=>by
  rw[List.cons_append]
  have hk:¬p.1=k:=fun z=>by rw[cw z] at hn;cases hn
  rw[bZ hk] at hn
  have ih:=mK k j y r hn
  by_cases e:p.1=j
  ·rw[cw e,cw e,if_neg (fun z=>hk (e.trans z))]
  ·rw[bZ e,bZ e,ih]
theorem cN (kvs:List (κ×V))(k j: κ)(y:V):av (putK kvs k y) j=if j=k then some y else av kvs j:=by
 unfold putK
 by_cases a:(kvs.any fun kv=>decide (kv.1=k))=true
 ·rw[if_pos a,pW]
  rw[dQ] at a
  by_cases e:j=k
  ·obtain⟨x,hx⟩:=Option.isSome_iff_exists.mp a
   rw[if_pos e,e,hx,Option.map_some,if_pos rfl]
  ·rw[if_neg e]
   cases av kvs j with
   | none=>rfl
   | some x=>rw[Option.map_some,if_neg e]
 ·rw[if_neg a]
  refine mK k j y kvs ?_
  rw[dQ] at a
  cases q:av kvs k with
  | none=>rfl
  | some x=>rw[q] at a;exact(a rfl).elim
theorem cV (kvs:List (κ×V))(k: κ)(v:V):(putK kvs k v).length<=kvs.length+1:=by
 unfold putK
 split
 ·rw[Ja];omega
 ·rw[Je,Jt,Yr];omega
theorem cP {kvs:List (κ×V)}{k: κ}(v:V)(h:av kvs k=none):putK kvs k v=kvs++[(k,v)]:=by
 unfold putK
 rw[dQ,h]
 exact if_neg (by decide)
theorem kH.fH {o:Option V}{u:Option Value}(r:kH o u):o.isSome=u.isSome:=by
 cases o with
 | none=>cases u with
  | none=>rfl
  | some _=>exact(show False from r).elim
 | some _=>cases u with
  | none=>exact(show False from r).elim
  | some _=>rfl
theorem KV.val {kvs:List (κ×V)}{vs:List (κ×Value)}(r:KV kvs vs)(k: κ):kH (av kvs k) (valueAt vs k):=by
 unfold KV at r
 induction r with
 | nil=>exact True.intro
 | @cons p q ps qs h t ih=>
  obtain⟨h1,h2⟩:=h
  by_cases e:p.1=k
  ·have e':q.1=k:=h1.symm.trans e
   have b:valueAt (q::qs) k=some q.2:=by simp[valueAt,List.find?_cons,e']
   rw[cw e,b];exact h2
  ·have e':¬q.1=k:=fun z=>e (h1.trans z)
   have b:valueAt (q::qs) k=valueAt qs k:=by simp[valueAt,List.find?_cons,e']
   rw[bZ e,b];exact ih
theorem KV.any {kvs:List (κ×V)}{vs:List (κ×Value)}(r:KV kvs vs)(k: κ):(kvs.any fun kv=>decide (kv.1=k))=vs.any fun kv=>decide (kv.1=k):=by
 unfold KV at r
 induction r with
 | nil=>rfl
 | cons h t ih=>rw[List.any_cons,List.any_cons,ih,h.1]
theorem KV.C6 {kvs:List (κ×V)}{vs:List (κ×Value)}(r:KV kvs vs)(k: κ){y:V}{u:Value}(ry:RelV y u):
  KV (kvs.map fun kv=>if kv.1=k then (kv.1,y) else kv) (vs.map fun kv=>if kv.1=k then (kv.1,u) else kv):=by
 unfold KV at r ⊢
 induction r with
 | nil=>exact .nil
 | @cons p q ps qs h t ih=>
  rw[Uc,Uc]
  refine .cons ?_ ih
  obtain⟨h1,h2⟩:=h
  by_cases e:p.1=k
  ·rw[if_pos e,if_pos (h1.symm.trans e)];exact⟨h1,ry⟩
  ·rw[if_neg e,if_neg (fun z=>e (h1.trans z))];exact⟨h1,h2⟩
theorem KV.put {kvs:List (κ×V)}{vs:List (κ×Value)}(r:KV kvs vs)(k: κ){y:V}{u:Value}(ry:RelV y u):KV (putK kvs k y) (stored vs k u):=by
 unfold putK stored
 rw[r.any k]
 by_cases e:(vs.any fun kv=>decide (kv.1=k))=true
 ·rw[if_pos e,if_pos e];exact r.C6 k ry
 ·rw[if_neg e,if_neg e];exact Paired.snoc r ⟨rfl,ry⟩
theorem KV.length {kvs:List (κ×V)}{vs:List (κ×Value)}(r:KV kvs vs):kvs.length=vs.length:=Paired.length r
end
theorem jV {P:Program}{w:World}{k:Key}{u:Value}(r:RelV (kV k) u):(aU P w).is k u=true:=by
 cases k with
 | inl i=>obtain⟨t,e⟩:=(show ∃t,u=Value.int i t from r);subst e;exact pS P w i t
 | inr x=>obtain⟨t,e⟩:=(show ∃t,u=Value.str x t from r);subst e;exact qL P w x t
theorem md {P:Program}{w:World}:∀{ks:List Key} {us:List Value},Vals (ks.map kV) us->ItemsAre (aU P w) ks us
 | [],_,r=>by rw[List.map_nil] at r;cases r;exact .nil
 | k::ks,_,r=>by
  rw[Uc] at r
  cases r with
  | cons h t=>exact .cons (jV h) (md t)
abbrev KT (H:Hp):List (List Key×V)->List (List Key×Addr×Value)->Prop:=Paired fun p q=>p.1=q.1/\H q.2.1=some (.tup (p.1.map kV))/\RelV p.2 q.2.2
theorem KT.val {H:Hp}{kvs:List (List Key×V)}{xs:List (List Key×Addr×Value)}(r:KT H kvs xs)(k:List Key):kH (av kvs k) ((atKey xs k).map (·.2)):=by
 induction r with
 | nil=>exact True.intro
 | @cons p q ps qs h t ih=>
  obtain⟨h1,_,h2⟩:=h
  by_cases e:p.1=k
  ·have e':q.1=k:=h1.symm.trans e
   have b:atKey (q::qs) k=some q.2:=by simp[atKey,List.find?_cons,e']
   rw[cw e,b];exact h2
  ·have e':¬q.1=k:=fun z=>e (h1.trans z)
   have b:atKey (q::qs) k=atKey qs k:=by simp[atKey,List.find?_cons,e']
   rw[bZ e,b];exact ih
theorem KT.C6 {H:Hp}{kvs:List (List Key×V)}{xs:List (List Key×Addr×Value)}(r:KT H kvs xs)(k:List Key){y:V}{u:Value}(ry:RelV y u):
  KT H (kvs.map fun kv=>if kv.1=k then (kv.1,y) else kv) (xs.map (putAt k u)):=by
 induction r with
 | nil=>exact .nil
 | @cons p q ps qs h t ih=>
  rw[Uc,Uc]
  refine .cons ?_ ih
  obtain⟨h1,h2,h3⟩:=h
  unfold putAt
  by_cases e:p.1=k
  ·rw[if_pos e,if_pos (h1.symm.trans e)];exact⟨h1,h2,ry⟩
  ·rw[if_neg e,if_neg (fun z=>e (h1.trans z))];exact⟨h1,h2,h3⟩
theorem KT.put {H:Hp}{kvs:List (List Key×V)}{xs:List (List Key×Addr×Value)}(r:KT H kvs xs)(k:List Key){b:Addr}{y:V}{u:Value}(hb:H b=some (.tup (k.map kV)))(ry:RelV y u):
  KT H (putK kvs k y) (storedH xs k b u):=by
 have e:(kvs.any fun kv=>decide (kv.1=k))=(atKey xs k).isSome:=by
  rw[dQ,(r.val k).fH,Option.isSome_map]
 unfold putK storedH
 rw[e]
 by_cases q:(atKey xs k).isSome=true
 ·rw[if_pos q,if_pos q];exact r.C6 k ry
 ·rw[if_neg q,if_neg q];exact Paired.snoc r ⟨rfl,hb,ry⟩
theorem KT.keeps {H H':Hp}{kvs:List (List Key×V)}{xs:List (List Key×Addr×Value)}(r:KT H kvs xs)(ht:∀b ys,H b=some (.tup ys)->H' b=some (.tup ys)):KT H' kvs xs:=
 Paired.DZ r fun _ _ z=>⟨z.1,ht _ _ z.2.1,z.2.2⟩
section
variable {P:Program}{w:World}{H:Hp}{h:Heap}{a:Addr}
theorem BE {u:HO}(ok:fZ P w H h)(e:Rd H a u):bq P w H h a u:=e.ok ok
theorem kI {kvs:List (Key×V)}(ok:fZ P w H h)(e:Rd H a (.dK kvs)):kvs.length<=sizeLine/\(a==sysModules)=false/\∃vs,KV kvs vs/\h.DictOf (aU P w) a vs:=
 show bq P w H h a (.dK kvs) from BE ok e
theorem xI {kvs:List (Key×V)}(ok:fZ P w H h)(e:H a=some (.dK kvs)):kvs.length<=sizeLine/\(a==sysModules)=false/\∃vs,KV kvs vs/\h.DictOf (aU P w) a vs:=kI ok (.inl e)
theorem jm {ks:List Key}(ok:fZ P w H h)(e:H a=some (.tup (ks.map kV))):(tupleKind (aU P w)).is h ks a:=by
 obtain⟨_,az,r,o,h1,h2,n,h3⟩:=(show bq P w H h a (.tup (ks.map kV)) from ok a _ e)
 exact⟨o,az.toArray,n,h1,h2,h3,by simpa using md r⟩
theorem mr {kvs:List (List Key×V)}(ok:fZ P w H h)(e:Rd H a (.dT kvs)):kvs.length<=sizeLine/\(a==sysModules)=false /\
  ∃xs,KT H kvs xs/\h.DictOfH (tupleKind (aU P w)) a xs:=by
 obtain⟨z,y,xs,r,o,es,ep,h1,h2,h3,h4,h5⟩:=(show bq P w H h a (.dT kvs) from BE ok e)
 refine⟨z,y,xs,r,o,es,ep,h1,h2,h3,h4,fun x hx =>?_,h5⟩
 have all:∀{l:List (List Key×V)} {m:List (List Key×Addr×Value)},KT H l m->∀x∈m,(tupleKind (aU P w)).is h x.1 x.2.1:=by
  intro l m q
  induction q with
  | nil=>intro x hx;exact nomatch hx
  | @cons p q ps qs hq t ih=>
   intro x hx
   rcases J5.mp hx with e|hx
   ·subst e
    exact jm ok (by rw[<-hq.1];exact hq.2.1)
   ·exact ih x hx
 exact all r x hx
theorem yb {kvs:List (List Key×V)}(ok:fZ P w H h)(e:H a=some (.dT kvs)):kvs.length<=sizeLine/\(a==sysModules)=false /\
  ∃xs,KT H kvs xs/\h.DictOfH (tupleKind (aU P w)) a xs:=mr ok (.inl e)
end
def cK (H:Hp)(a:Addr)(y:V)(r:Option V):Prop:=
 (bO fun kvs k=>Rd H a (.dK kvs)/\y=kV k/\r=av kvs k)∨fq fun kvs k b=>Rd H a (.dT kvs)/\y = .ref b/\H b=some (.tup (k.map kV))/\r=av kvs k
def gq (H:Hp)(a:Addr)(y v:V)(H':Hp):Prop:=
 (bO fun kvs k=>H a=some (.dK kvs)/\y=kV k/\kvs.length<sizeLine/\H'=upd H a (.dK (putK kvs k v))) ∨
 fq fun kvs k b=>H a=some (.dT kvs)/\y = .ref b/\H b=some (.tup (k.map kV))/\kvs.length<sizeLine/\H'=upd H a (.dT (putK kvs k v))
theorem cK.k {H:Hp}{a:Addr}{kvs:List (Key×V)}{k:Key}(e:H a=some (.dK kvs)):cK H a (kV k) (av kvs k) := .inl ⟨kvs,k,.inl e,rfl,rfl⟩
theorem cK.t {H:Hp}{a b:Addr}{kvs:List (List Key×V)}{k:List Key}(e:H a=some (.dT kvs))(eb:H b=some (.tup (k.map kV))):cK H a (.ref b) (av kvs k) := .inr ⟨kvs,k,b,.inl e,rfl,eb,rfl⟩
theorem gq.k {H:Hp}{a:Addr}{kvs:List (Key×V)}{k:Key}{v:V}(e:H a=some (.dK kvs))(hl:kvs.length<sizeLine):gq H a (kV k) v (upd H a (.dK (putK kvs k v))) := .inl ⟨kvs,k,e,rfl,hl,rfl⟩
theorem gq.t {H:Hp}{a b:Addr}{kvs:List (List Key×V)}{k:List Key}{v:V}(e:H a=some (.dT kvs))(eb:H b=some (.tup (k.map kV)))(hl:kvs.length<sizeLine):
  gq H a (.ref b) v (upd H a (.dT (putK kvs k v))) := .inr ⟨kvs,k,b,e,rfl,eb,hl,rfl⟩
section
variable {X:Cx}{pins:List (Addr×Obj)}{σ:St}{H:Hp}{s:Shared}{a:Addr}{y v:V}{u r:Value}{o:Option V}{A:Around}{E:Value->Shared->Prop}
theorem Inv.big (I:Inv X pins σ H s):sysModules<s.heap.objs.size:=by
 have h:mainGlobals<s.heap.objs.size:=(I.mod.glob.keeps I.bk).lt
 exact Nat.lt_trans (by decide) h
theorem uS {Q:Value->Shared->Prop}(hu:A.units+1<cLine)(I:Inv X pins σ H s)(g:cK H a y (some v))(ry:RelV y u)(h:∀w' s',Inv X pins σ H s'->RelV v w'->Q w' s'):
  wpAny (model X.prog X.w) A (getItem (.ref a) u) Q E s:=by
 rcases g with ⟨kvs,k,e,ey,l⟩|⟨kvs,k,b,e,ey,eb,l⟩
 ·subst ey
  obtain⟨z,hd,vs,rel,dd⟩:=kI I.aR e
  obtain⟨w',hw,oU⟩:=kH.some_of (v:=v) (o:=valueAt vs k) (by rw[l];exact rel.val k)
  exact wpAny_getItem_of (jV ry) dd.mapOf hw (h w' _ (I.tok _) oU)
 ·subst ey
  cases (show u=Value.ref b from ry)
  obtain⟨z,hd,xs,rel,dd⟩:=mr I.aR e
  obtain⟨w',hw,oU⟩:=kH.some_of (v:=v) (o:=(atKey xs k).map (·.2)) (by rw[l];exact rel.val k)
  obtain⟨p,hp,nW⟩:=Option.map_eq_some_iff.mp hw
  refine wpAny_getItem_heap (tupleKind_room_in1 hu) (jm I.aR eb) dd hp ?_
  rw[nW]
  exact h w' _ (I.tok _) oU
theorem L0 {Q:Value->Shared->Prop}(hu:A.units+1<cLine)(I:Inv X pins σ H s)(g:cK H a y o)(ry:RelV y u)(h:∀s',Inv X pins σ H s'->Q (.bool o.isSome) s'):
  wpAny (model X.prog X.w) A (compareOp .In u (.ref a)) Q E s:=by
 rcases g with ⟨kvs,k,e,ey,l⟩|⟨kvs,k,b,e,ey,eb,l⟩
 ·subst ey
  obtain⟨z,hd,vs,rel,dd⟩:=kI I.aR e
  refine wpAny_in_of (jV ry) hd dd.mapOf ?_
  rw[<-(rel.val k).fH,<-l]
  exact h _ (I.tok _)
 ·subst ey
  cases (show u=Value.ref b from ry)
  obtain⟨z,hd,xs,rel,dd⟩:=mr I.aR e
  refine wpAny_in_heap (tupleKind_room_in1 hu) (jm I.aR eb) hd dd ?_
  have q:=(rel.val k).fH
  rw[Option.isSome_map] at q
  rw[<-q,<-l]
  exact h _ (I.tok _)
theorem Ar {Q:Value->Shared->Prop}(hu:A.units+1<cLine)(I:Inv X pins σ H s)(g:cK H a y o)(ry:RelV y u)(h:∀s',Inv X pins σ H s'->Q (.bool (!o.isSome)) s'):
  wpAny (model X.prog X.w) A (compareOp .NotIn u (.ref a)) Q E s:=by
 rcases g with ⟨kvs,k,e,ey,l⟩|⟨kvs,k,b,e,ey,eb,l⟩
 ·subst ey
  obtain⟨z,hd,vs,rel,dd⟩:=kI I.aR e
  refine wpAny_notIn_of (jV ry) hd dd.mapOf ?_
  rw[<-(rel.val k).fH,<-l]
  exact h _ (I.tok _)
 ·subst ey
  cases (show u=Value.ref b from ry)
  obtain⟨z,hd,xs,rel,dd⟩:=mr I.aR e
  refine wpAny_notIn_heap (tupleKind_room_in1 hu) (jm I.aR eb) hd dd ?_
  have q:=(rel.val k).fH
  rw[Option.isSome_map] at q
  rw[<-q,<-l]
  exact h _ (I.tok _)
theorem ic {h':Heap}{t':Nat}{ob:HO}(I:Inv X pins σ H s)(mu:EI (H a))(hs:U6 a s.heap h')(he:∃q,h'.get? a=some q)(new:bq X.prog X.w (upd H a ob) h' a ob):
  Inv X pins σ (upd H a ob) { s with heap:=h',toks:=t' }:=
 I.write (x:=a) (e:=a) mu (.inl rfl) (fun b q hb z=>(hs.2 b hb).trans z) he new
theorem nZ {P:Program}{w:World}{H':Hp}{h':Heap}{kvs:List (Key×V)}{vs:List (Key×Value)}(z:kvs.length<=sizeLine)(hd:(a==sysModules)=false)(rel:KV kvs vs)(dd:h'.DictOf (aU P w) a vs):
  bq P w H' h' a (.dK kvs):=⟨z,hd,vs,rel,dd⟩
theorem u3 {H':Hp}{Q:Unit->Shared->Prop}(hu:A.units+1<cLine)(I:Inv X pins σ H s)(g:gq H a y v H')(ry:RelV y u)(rv:RelV v r)(h:∀s',Inv X pins σ H' s'->Q () s'):
  wpAny (model X.prog X.w) A (setItem (.ref a) u r) Q E s:=by
 rcases g with ⟨kvs,k,e,ey,l,eH⟩|⟨kvs,k,b,e,ey,eb,l,eH⟩
 ·subst ey eH
  obtain⟨z,hd,vs,rel,dd⟩:=xI I.aR e
  have hz:vs.length<=sizeLine:=by rw[<-rel.length];exact z
  have hl:(putK kvs k v).length<=sizeLine:=by have:=cV kvs k v;omega
  refine wpAny_setItem_pairs (hsz:=hz) (jV ry) dd fun h' dd' hs=>h _ ?_
  have he:∃q,h'.get? a=some q:=let ⟨q,_,_,hq,_⟩:=dd'; ⟨q,hq⟩
  exact ic I (by rw[e];exact True.intro) hs he (nZ hl hd (rel.put k rv) dd')
 ·subst ey eH
  cases (show u=Value.ref b from ry)
  obtain⟨z,hd,xs,rel,dd⟩:=yb I.aR e
  have hz:xs.length<=sizeLine:=by rw[<-Paired.length rel];exact z
  have hl:(putK kvs k v).length<=sizeLine:=by have:=cV kvs k v;omega
  refine wpAny_setItem_heap (hsz:=hz) (tupleKind_room_in1 hu) (jm I.aR eb) dd fun h' dd' hs=>h _ ?_
  obtain⟨q,es,ep,hq,h2,h3,h4,_,h5⟩:=dd'
  refine ic I (by rw[e];exact True.intro) hs ⟨q,hq⟩ ⟨hl,hd,_,(rel.put k eb rv).keeps fun c ys ec =>?_,q,es,ep,hq,h2,h3,h4,h5⟩
  rw[aj (xN ec e (fun z=>nomatch z))]
  exact ec
end
section
variable {X:Cx}{pins:List (Addr×Obj)}{σ:St}{H:Hp}{s:Shared}{a:Addr}{kvs:List (Key×V)}{k:Key}{u:Value}{A:Around}{E:Value->Shared->Prop}
theorem GH {Q:Value->Shared->Prop}(I:Inv X pins σ H s)(e:Rd H a (.dK kvs))(h:∀t s',Inv X pins σ H s'->Q (.int kvs.length t) s'):wpAny (model X.prog X.w) A (call (.builtin "len") [.ref a]) Q E s:=by
 obtain⟨z,hd,vs,rel,dd⟩:=kI I.aR e
 refine call_len_dict hd dd (by rw[<-rel.length];rw[sizeLine_eq] at z;omega) ?_
 rw[<-rel.length]
 exact h _ _ (I.tok _)
end
def Es (i:Expr):Prop:=∀ov iv,subscripted i false ov iv=operate [ov,iv] (getItem ov iv)
theorem zQ {prog:Program}{w:World}{A:Around}{E:Value->Shared->Prop}{s:Shared}{env:Env}{value slice:Expr}{pos:Pos}{T id:String}{Q:Value->Shared->Prop}
  (hl:typeLookup (.type T) "__getitem__" = pure (some (.builtin id))) (hs:Es slice)
  (h:wpAny (model prog w) A (eval value env) (fun o s₁=>wpAny (model prog w) A (eval slice env) (fun i s₂=>s₂.TypeIs o T/\wpAny (model prog w) A (getItem o i) Q E s₂) E s₁) E s) :
  wpAny (model prog w) A (eval (.Subscript value slice pos) env) Q E s:=by
 refine Subscript_ (wpAny_mono h (fun o s₁ h₁=>wpAny_mono h₁ (fun i s₂ h₂ =>?_) fun _ _ x=>x) fun _ _ x=>x)
 obtain⟨hT,h₂⟩:=h₂
 unfold subscriptTail
 refine wpAny_bind ?_
 rw[getitemInPython_of_ne hT.not_modules]
 refine wpAny_bind (wpAny_specialOf hT hl ?_)
 have fin:wpAny (model prog w) A (subscripted slice false o i) (fun r s₃=>wpAny (model prog w) A (letTemporaryGo value o r >>= fun _=>pure r) Q E s₃) E s₂:=by
  rw[hs o i]
  exact wpAny_operating (wpAny_mono h₂ (fun r s₃ h₃=>wpAny_bind (wpAny_letTemporaryGo (wpAny_pure h₃))) fun _ _ x=>x)
 first
  | exact wpAny_pure (wpAny_bind fin)
  | exact wpAny_bind (wpAny_pure (wpAny_bind fin))
  | exact wpAny_bind fin
theorem qm {X:Cx}{pins:List (Addr×Obj)}{σ:St}{H:Hp}{s:Shared}{a:Addr}{y:V}{o:Option V}(I:Inv X pins σ H s)(g:cK H a y o):s.TypeIs (.ref a) "dict":=by
 rcases g with ⟨kvs,k,e,_,_⟩|⟨kvs,k,b,e,_,_,_⟩
 ·obtain⟨_,_,vs,_,dd⟩:=kI I.aR e
  exact dd.typeIs
 ·obtain⟨_,_,xs,_,dd⟩:=mr I.aR e
  exact dd.typeIs
def Gd (td ty:TE):TE:=fun σ H Q=>td σ H fun x H1=>ty σ H1 fun y H2=>bO fun a v=>x = .ref a/\cK H2 a y (some v)/\Q v H2
def L6 (ty td:TE):TE:=fun σ H Q=>ty σ H fun y H1=>td σ H1 fun x H2=>bO fun a o=>x = .ref a/\cK H2 a y o/\Q (.bl o.isSome) H2
def Ag (ty td:TE):TE:=fun σ H Q=>ty σ H fun y H1=>td σ H1 fun x H2=>bO fun a o=>x = .ref a/\cK H2 a y o/\Q (.bl (!o.isSome)) H2
def Fb (td ty tv:TE):TS:=fun D σ H=>tv σ H fun v H1=>td σ H1 fun x H2=>ty σ H2 fun y H3=>bO fun a H4=>x = .ref a/\gq H3 a y v H4/\D.nx σ H4
section
variable {X:Cx}{o i e value:Expr}{pos pos' QH:Pos}{td ty tv:TE}
theorem bL (hu:X.A.units+1<cLine)(ho:PE X o td)(hi:PE X i ty)(hs:Es i):PE X (.Subscript o i pos) (Gd td ty):=by
 intro pins s σ H Q I h
 refine zQ PySem.F.slot_dict_getitem.lookup hs (aZ (ho s σ H _ I h) fun u s1 hz_=>ae.el hz_ _ fun x H1 I1 rx q1=>aZ (hi s1 σ H1 _ I1 q1) fun iv s2 hz_ =>?_)
 refine ae.el hz_ _ ?_
 clear hz_
 rintro y H2 I2 ry ⟨a,v,ex,g,q2⟩
 subst ex
 obtain rfl:u=Value.ref a:=rx
 exact⟨qm I2 g,uS hu I2 g ry fun w' s3 I3 oU=>⟨v,H2,I3,oU,q2⟩⟩
theorem kh (hu:X.A.units+1<cLine)(hi:PE X i ty)(ho:PE X o td):PC X .In i o (L6 ty td):=by
 intro pins s σ H Q I h
 refine aZ (hi s σ H _ I h) fun iv s1 hz_=>ae.el hz_ _ fun y H1 I1 ry q1=>aZ (ho s1 σ H1 _ I1 q1) fun u s2 hz_ =>?_
 refine ae.el hz_ _ ?_
 clear hz_
 rintro x H2 I2 rx ⟨a,ov,ex,g,q2⟩
 subst ex
 obtain rfl:u=Value.ref a:=rx
 exact L0 hu I2 g ry fun s3 I3=>⟨.bl ov.isSome,H2,I3,rfl,q2⟩
theorem fI (hu:X.A.units+1<cLine)(hi:PE X i ty)(ho:PE X o td):PC X .NotIn i o (Ag ty td):=by
 intro pins s σ H Q I h
 refine aZ (hi s σ H _ I h) fun iv s1 hz_=>ae.el hz_ _ fun y H1 I1 ry q1=>aZ (ho s1 σ H1 _ I1 q1) fun u s2 hz_ =>?_
 refine ae.el hz_ _ ?_
 clear hz_
 rintro x H2 I2 rx ⟨a,ov,ex,g,q2⟩
 subst ex
 obtain rfl:u=Value.ref a:=rx
 exact Ar hu I2 g ry fun s3 I3=>⟨.bl (!ov.isSome),H2,I3,rfl,q2⟩
theorem fv (hu:X.A.units+1<cLine)(ho:PE X o td)(hi:PE X i ty)(hv:PE X value tv)(hs:swapsWith value (some (.Subscript o i pos')) pos.line X.env=pure false):
  PS X (.Assign [.Subscript o i pos'] value pos) (Fb td ty tv):=by
 intro pins s σ H D I h
 refine wpAny_Assign_Subscript (aZ (hv s σ H _ I h) fun r s1 ⟨v,H1,I1,rv,q1⟩=>aZ (ho s1 σ H1 _ I1 q1) fun u s2 ⟨x,H2,I2,rx,q2⟩=>aZ (hi s2 σ H2 _ I2 q2) fun iv s3 ⟨y,H3,I3,ry,a,H4,ex,g,q3⟩=>?_) hs
 subst ex
 obtain rfl:u=Value.ref a:=rx
 exact u3 hu I3 g ry rv fun s4 I4=>⟨σ,H4,I4,q3⟩
end
theorem i0 {P:Program}{w:World}{H:Hp}(h:Heap)(hb:sysModules<h.objs.size):bq P w H (h.push { cls := .type "dict",data := .dict #[] }) h.objs.size (.dK []):=
 ⟨Us _,beq_eq_false_iff_ne.mpr (Ne.symm (Jz hb)),[],.nil,Heap.DictOf.new h⟩
theorem xK {P:Program}{w:World}{H:Hp}(h:Heap)(hb:sysModules<h.objs.size):bq P w H (h.push { cls := .type "dict",data := .dict #[] }) h.objs.size (.dT []):=
 ⟨Us _,beq_eq_false_iff_ne.mpr (Ne.symm (Jz hb)),[],.nil,_,#[],0,Jo _ rfl,⟨rfl,rfl,rfl⟩,rfl,rfl,Ws⟩
def wu:TE:=fun _ H Q=>∀p,H p=none->Q (.ref p) (upd H p (.dK []))
section
variable {X:Cx}{pos:Pos}
theorem wB:PE X (.Dict [] [] pos) wu:=fun pins s σ H Q I h=>
 wpAny_Dict_empty ⟨.ref s.heap.objs.size,_,I.laid (a:=s.heap.objs.size) (o := .dK []) (t':=s.toks) (fun _ _ q=>Jb _ q) (Jf _) (i0 s.heap I.big),rfl,h _ (I.aR.fresh (Jf _))⟩
end
def lK:List (TE×TE)->St->Hp->(List (V×V)->Hp->Prop)->Prop
 | [],_,H,Q=>Q [] H
 | (tk,tv)::r,σ,H,Q=>tk σ H fun x H1=>tv σ H1 fun y H2=>lK r σ H2 fun ps H3=>Q ((x,y)::ps) H3
abbrev VV:List (V×V)->List (Value×Value)->Prop:=Paired fun p q=>RelV p.1 q.1/\RelV p.2 q.2
def FT (X:Cx)(pos:Pos)(keys:List (Option Expr))(values:List Expr)(pY:List (TE×TE)):Prop:=
 ∀ ⦃pins:List (Addr×Obj)⦄ (s:Shared) (σ:St) (H:Hp) (Q:List (V×V)->Hp->Prop),Inv X pins σ H s->lK pY σ H Q ->
  wpAny (model X.prog X.w) X.A (evalPairs (pairTrees keys values X.env pos)) (fun vs s'=>bO fun ps H'=>Inv X pins σ H' s'/\VV ps vs/\Q ps H') X.xe s
theorem tq {X:Cx}{pos:Pos}:FT X pos [] [] []:=fun pins s σ H Q I h=>pairTrees_nil_walk ⟨[],H,I,.nil,h⟩
theorem lL {X:Cx}{pos:Pos}{k v:Expr}{ks:List (Option Expr)}{vs:List Expr}{tk tv:TE}{pY:List (TE×TE)}(hk:PE X k tk)(hv:PE X v tv)(hr:FT X pos ks vs pY):
  FT X pos (some k::ks) (v::vs) ((tk,tv)::pY):=fun pins s σ H Q I h=>
 pairTrees_cons_walk (aZ (hk s σ H _ I h) fun u s1 hz_=>ae.el hz_ _ fun x H1 I1 rx q1=>aZ (hv s1 σ H1 _ I1 q1) fun w2 s2 ⟨y,H2,I2,ry,q2⟩=>
  aZ (hr s2 σ H2 _ I2 q2) fun ws s3 hz_=>ae.el hz_ _ fun ps H3 I3 rel q3=>⟨(x,y)::ps,H3,I3,.cons ⟨rx,ry⟩ rel,q3⟩)
noncomputable def dh (kvs more:List (Key×V)):List (Key×V):=more.foldl (fun acc kv=>putK acc kv.1 kv.2) kvs
theorem KV.merge:∀{more:List (Key×V)} {rs:List (Key×Value)} {kvs:List (Key×V)} {vs:List (Key×Value)},KV more rs->KV kvs vs->KV (dh kvs more) (merged vs rs):=by
 intro more rs kvs vs r
 unfold KV at r
 induction r generalizing kvs vs with
 | nil=>intro q;exact q
 | @cons p q ps qs h t ih=>
  intro r0
  have e:KV (putK kvs p.1 p.2) (stored vs q.1 q.2):=by
   have:=r0.put p.1 h.2
   rw[<-h.1];exact this
  exact ih e
theorem cQ:∀(more kvs:List (Key×V)),(dh kvs more).length<=kvs.length+more.length
 | [],kvs=>by show kvs.length<=kvs.length+0;omega
 | p::r,kvs=>by
  have h1:=cQ r (putK kvs p.1 p.2)
  have h2:=cV kvs p.1 p.2
  show(dh (putK kvs p.1 p.2) r).length<=_
  rw[Jt];omega
theorem kg {P:Program}{w:World}:∀{kvs:List (Key×V)} {ws:List (Value×Value)},VV (kvs.map fun kv=>(kV kv.1,kv.2)) ws->∃rs,Carries (aU P w) ws rs/\KV kvs rs
 | [],_,r=>by rw[List.map_nil] at r;cases r;exact⟨[],True.intro,.nil⟩
 | p::kvs,_,r=>by
  rw[Uc] at r
  cases r with
  | @cons a b as bs h t=>
   obtain⟨rs,c,q⟩:=kg (P:=P) (w:=w) t
   obtain⟨b1,b2⟩:=b
   exact⟨(p.1,b2)::rs,⟨jV h.1,rfl,c⟩,.cons ⟨rfl,h.2⟩ q⟩
def xu (pY:List (TE×TE)):TE:=fun σ H Q=>∀p,H p=none->lK pY σ (upd H p (.dK [])) fun ps H2=>H2 p=some (.dK [])/\∃kvs:List (Key×V),ps=kvs.map (fun kv=>(kV kv.1,kv.2))/\kvs.length<=15/\Q (.ref p) (upd H2 p (.dK (dh [] kvs)))
theorem A0 {X:Cx}{pos:Pos}{keys:List (Option Expr)}{values:List Expr}{pY:List (TE×TE)}(h:FT X pos keys values pY)(eg:keys.all (·.isSome)=true)(hl:keys.length=values.length)(h0:keys≠[])
  (M8:keys.length<=15):PE X (.Dict keys values pos) (xu pY):=by
 intro pins s σ H Q I q
 have hn:=I.aR.fresh (Jf s.heap.objs.size)
 have I1:=I.laid (a:=s.heap.objs.size) (o := .dK []) (h':=s.heap.push { cls := .type "dict",data := .dict #[] }) (t':=s.toks) (fun _ _ q=>Jb _ q) (Jf _) (i0 s.heap I.big)
 refine wpAny_Dict_walk (knd:=aU X.prog X.w) eg hl h0 M8 (aZ (h _ σ _ _ I1 (q _ hn)) fun ws s2 hz_=>ae.el hz_ _ fun ps H2 I2 rel e kvs ep lk q2 =>?_)
 subst ep
 obtain⟨rs,c,rk⟩:=kg (P:=X.prog) (w:=X.w) rel
 obtain⟨z,hd,vs0,r0,dd⟩:=xI I2.aR e
 cases r0
 refine⟨rs,c,dd,fun h' dd' hs=>⟨.ref s.heap.objs.size,_,?_,rfl,q2⟩⟩
 have hz:(dh [] kvs).length<=sizeLine:=by
  have h1:=cQ kvs []
  rw[Yr] at h1
  rw[sizeLine_eq];omega
 have he:∃q,h'.get? s.heap.objs.size=some q:=let ⟨q,_,_,hq,_⟩:=dd'; ⟨q,hq⟩
 exact ic I2 (by rw[e];exact True.intro) hs he (nZ hz hd (rk.merge .nil) dd')
end L2
namespace HT
open PySem PyProof.Rows
section
variable {prog:Program}{w:World}{A:Around}{E:Value->Shared->Prop}{s:Shared}
noncomputable def qk (n d:Nat):Option Int->Nat
 | none=>d
 | some v=>if v<0 then (v+(n:Int)).toNat else min v.toNat n
theorem xB (n d:Nat):qk n d none=d:=rfl
theorem zO (n d k:Nat):qk n d (some (k:Int))=min k n:=by
 show(if (k:Int)<0 then ((k:Int)+(n:Int)).toNat else min (k:Int).toNat n)=min k n
 rw[if_neg (by omega),Uz]
end
end HT
namespace L2
open PySem PySem.Spec PyProof.Rows
abbrev TO:=St->Hp->(Option Int->Hp->Prop)->Prop
def PO (X:Cx)(e:Option Expr)(t:TO):Prop:=
 ∀ ⦃pins:List (Addr×Obj)⦄ (s:Shared) (σ:St) (H:Hp) (Q:Option Int->Hp->Prop),Inv X pins σ H s->t σ H Q ->
  wpAny (model X.prog X.w) X.A (evalPart e X.env) (fun u s'=>bO fun o H'=>Inv X pins σ H' s'/\IsPart u o/\Q o H') X.xe s
noncomputable def fh:TO:=fun _ H Q=>Q none H
noncomputable def Bq (t:TE):TO:=fun σ H Q=>t σ H fun x H1=>∃i,x = .int i/\Q (some i) H1
section
variable {X:Cx}{e:Expr}{te:TE}{lo hi:Option Expr}{tl th:TO}{pos p2:Pos}
theorem dr:PO X none fh:=by
 intro pins s σ H Q I h
 rw[evalPart_none]
 exact wpAny_pure ⟨none,H,I,.none,h⟩
theorem dj (h:PE X e te):PO X (some e) (Bq te):=by
 intro pins s σ H Q I hw
 rw[evalPart_some]
 refine aZ (h s σ H _ I hw) fun u s1 hz_ =>?_
 refine ae.el hz_ _ ?_
 clear hz_
 rintro x H1 I1 r1 q1
 obtain⟨i,rfl,q⟩:=q1
 obtain⟨t,rfl⟩:=r1
 exact⟨some i,H1,I1,.int i t,q⟩
def y8 (X:Cx)(r:V->Option Int->Option Int->Hp->VK->Prop):Prop:=
 ∀ ⦃pins:List (Addr×Obj)⦄ (s:Shared) (σ:St) (H:Hp) (x:V) (v vl vu:Value) (lo hi:Option Int) (sl:Addr) (Q:VK),Inv X pins σ H s->RelV x v->s.heap.IsSliceOf sl vl vu .none->IsPart vl lo->IsPart vu hi->r x lo hi H Q ->
  bO fun T id=>typeLookup (.type T) "__getitem__" = pure (some (.builtin id))/\s.TypeIs v T/\wpAny (model X.prog X.w) X.A (getItem v (.ref sl)) (EP X pins σ Q) X.xe s
theorem y8.or {r r':V->Option Int->Option Int->Hp->VK->Prop}(h:y8 X r)(h':y8 X r'):y8 X (fun x lo hi H Q=>r x lo hi H Q∨r' x lo hi H Q):=by
 intro pins s σ H x v vl vu lo hi sl Q I rx hs pl pu q
 rcases q with q|q
 ·exact h s σ H x v vl vu lo hi sl Q I rx hs pl pu q
 ·exact h' s σ H x v vl vu lo hi sl Q I rx hs pl pu q
def Od (r:V->Option Int->Option Int->Hp->VK->Prop)(te:TE)(tl th:TO):TE:=fun σ H Q=>te σ H fun x H1=>tl σ H1 fun l H2=>th σ H2 fun u H3=>r x l u H3 Q
theorem cI {r:V->Option Int->Option Int->Hp->VK->Prop}(hr:y8 X r)(he:PE X e te)(hl:PO X lo tl)(hu:PO X hi th):PE X (.Subscript e (.Slice lo hi none p2) pos) (Od r te tl th):=by
 intro pins s σ H Q I h
 refine Subscript_ (aZ (he s σ H _ I h) fun v s1 hz_ =>?_)
 refine ae.el hz_ _ ?_
 clear hz_
 rintro x H1 I1 r1 q1
 refine wpAny_Slice (aZ (hl s1 σ H1 _ I1 q1) fun vl s2 hz_=>ae.el hz_ _ fun l H2 I2 pl q2=>aZ (hu s2 σ H2 _ I2 q2) fun vu s3 hz_ =>?_)
 refine ae.el hz_ _ ?_
 clear hz_
 rintro u H3 I3 pu q3
 rw[evalPart_none]
 refine wpAny_pure ?_
 have I4:Inv X pins σ H3 { s3 with heap:=s3.heap.push { cls := .type "slice",data := .fields #[vl,vu,.none] } }:=I3.kept (t':=s3.toks) fun b ob q=>Jb _ q
 obtain⟨T,id,hT,ht,hg⟩:=hr { s3 with heap:=s3.heap.push { cls := .type "slice",data := .fields #[vl,vu,.none] } } σ H3 x v vl vu l u s3.heap.objs.size Q I4 r1 (Heap.IsSliceOf.new ..) pl pu q3
 show wpAny (model X.prog X.w) X.A (subscriptTail e (.Slice lo hi none p2) v (.ref s3.heap.objs.size)) (EP X pins σ Q) X.xe { s3 with heap:=s3.heap.push { cls := .type "slice",data := .fields #[vl,vu,.none] } }
 exact tail_any (ops:=[.ref s3.heap.objs.size,v]) ht hT hg (by with_unfolding_all rfl)
noncomputable def qa (xs:List V)(lo hi:Option Int):List V:=(xs.drop (HT.qk xs.length 0 lo)).take (HT.qk xs.length xs.length hi-HT.qk xs.length 0 lo)
theorem qR (xs:List V)(lo hi:Option Int):(qa xs lo hi).length<=xs.length:=by
 unfold qa
 rw[J6,Uw]
 omega
end
noncomputable def yA (n:Nat)(i:Int):Option Nat:=if 0<=i then (if i<n then some i.toNat else none) else if -(n:Int)<=i then some (i+n).toNat else none
noncomputable def rO {α:Type}(xs:List α)(i:Int):Option α:=(yA xs.length i).bind fun j=>xs[j]?
theorem nJ {n:Nat}{i:Int}{j:Nat}(h:yA n i=some j):seqIndex? i n=some j/\j<n /\ -(n:Int)<=i/\i<n:=by
 unfold yA at h
 by_cases h0:0<=i
 ·rw[if_pos h0] at h
  by_cases h1:i<n
  ·rw[if_pos h1] at h
   have e:i.toNat=j:=Option.some.inj h
   exact⟨by rw[seqIndex_of h0 h1,e],by omega,by omega,h1⟩
  ·rw[if_neg h1] at h;cases h
 ·rw[if_neg h0] at h
  by_cases h1: -(n:Int)<=i
  ·rw[if_pos h1] at h
   have e:(i+n).toNat=j:=Option.some.inj h
   exact⟨by rw[seqIndex_neg (by omega) h1,e],by omega,h1,by omega⟩
  ·rw[if_neg h1] at h;cases h
theorem j6 {α:Type}{xs:List α}{i:Int}{v: α}(h:rO xs i=some v):∃j,seqIndex? i xs.length=some j/\xs[j]? = some v/\j<xs.length /\ -(xs.length:Int)<=i/\i<xs.length:=by
 unfold rO at h
 cases e:yA xs.length i with
 | none=>rw[e] at h;cases h
 | some j=>
  rw[e] at h
  obtain⟨h1,h2,h3,h4⟩:=nJ e
  exact⟨j,h1,h,h2,h3,h4⟩
theorem oJ {α:Type}{xs:List α}{j:Nat}{v: α}(h:xs[j]? = some v):rO xs (j:Int)=some v:=by
 have hj:j<xs.length:=(Jy.mp h).1
 have e:yA xs.length (j:Int)=some j:=by
  unfold yA
  rw[if_pos (by omega),if_pos (by omega)];simp
 unfold rO;rw[e];exact h
def Ak (b:Expr):Prop:=∀o i,subscripted b false o i=operate [o,i] (getItem o i)
def ze (X:Cx)(r:R2):Prop:=
 ∀ ⦃value slice:Expr⦄ ⦃pins:List (Addr×Obj)⦄ (s:Shared) (σ:St) (H:Hp) (x y:V) (v u:Value) (Q:VK),Inv X pins σ H s->RelV x v->RelV y u->r x y H Q ->
  subscripted slice false v u=operate [v,u] (getItem v u)->wpAny (model X.prog X.w) X.A (subscriptTail value slice v u) (EP X pins σ Q) X.xe s
def B1 (X:Cx)(id:String)(r:V->List V->Hp->VK->Prop):Prop:=
 ∀ ⦃pins:List (Addr×Obj)⦄ (s:Shared) (σ:St) (H:Hp) (x:V) (xs:List V) (v:Value) (us:List Value) (Q:VK),Inv X pins σ H s->RelV x v->Vals xs us->r x xs H Q ->
  wpAny (model X.prog X.w) X.A (call (.builtin id) (v::us)) (EP X pins σ Q) X.xe s
section
variable {X:Cx}{a b:Expr}{ta tb:TE}{pos:Pos}
theorem ze.or {r r':R2}(h:ze X r)(h':ze X r'):ze X (fun x y H Q=>r x y H Q∨r' x y H Q):=by
 intro value slice pins s σ H x y v u Q I rx ry q hs
 rcases q with q|q
 ·exact h s σ H x y v u Q I rx ry q hs
 ·exact h' s σ H x y v u Q I rx ry q hs
theorem ji {r:R2}(hr:ze X r)(ha:PE X a ta)(hb:PE X b tb)(hs:Ak b):PE X (.Subscript a b pos) (Hd r ta tb):=by
 intro pins s σ H Q I h
 exact Subscript_ (Cb ha hb I h fun v u s2 x y H2 I2 rx ry q=>hr s2 σ H2 x y v u Q I2 rx ry q (hs _ _))
def Fj (K:Jc):R2:=fun x y H Q=>lU fun p xs i v=>x = .ref p/\y = .int i/\aD K H p xs/\rO xs i=some v/\Q v H
def GJ (K:Jc):R2:=fun x y H Q=>lU fun p xs i v=>x = .ref p/\y = .int i/\fw K H p xs/\rO xs i=some v/\Q v H
def GI:R2:=fun x y H Q=>fq fun z i c=>x = .str z/\y = .int i/\z.length<=sizeLine/\rO z.cps.toList i=some c/\Q (.str ⟨#[c]⟩) H
theorem AU:ze X (Fj X.K):=by
 intro value slice pins s σ H x y v u Q I rx ry h hs
 obtain⟨p,xs,i,z,rfl,rfl,hq,he,q⟩:=h
 cases rx
 obtain⟨t,rfl⟩:=ry
 obtain⟨az,r,pl,hz⟩:=I.list hq
 obtain⟨j,h1,h2,h3,h4,h5⟩:=j6 he
 obtain⟨w,ew,oU⟩:=r.get h2
 have hl:=r.length
 have hn:=jJ
 have fin:EP X pins σ Q w s:=⟨z,H,I,oU,q⟩
 by_cases h0:0<=i
 ·have hj:i.toNat=j:=by
   rw[seqIndex_of h0 h5] at h1
   exact Option.some.inj h1
  exact item_listR pl.isList h0 (by omega) (by rw[hj];simpa using ew) fin hs
 ·have hj:(i+(az.toArray.size:Int)).toNat=j:=by
   rw[seqIndex_neg (by omega) h4] at h1
   rw[Jr,<-hl]
   exact Option.some.inj h1
  exact subscriptTail_builtinR (x:=w) pl.isList.typeIs slot_list_getitem.lookup
   (wpAny_getItem_list_neg (Q:=fun r s'=>r=w/\EP X pins σ Q r s') pl.isList (by omega) (by rw[Jr]<;>omega) (by omega) (by rw[hj];simpa using ew) ⟨rfl,fin⟩) hs
theorem D8:ze X (GJ X.K):=by
 intro value slice pins s σ H x y v u Q I rx ry h hs
 obtain⟨p,xs,i,z,rfl,rfl,hq,he,q⟩:=h
 cases rx
 obtain⟨t,rfl⟩:=ry
 obtain⟨az,r,pl,hz⟩:=I.tuple hq
 obtain⟨j,h1,h2,h3,h4,h5⟩:=j6 he
 obtain⟨w,ew,oU⟩:=r.get h2
 have hl:=r.length
 have hn:=jJ
 have fin:EP X pins σ Q w s:=⟨z,H,I,oU,q⟩
 exact subscriptTail_builtinR (x:=w) pl.typeIs slot_tuple_getitem.lookup
  (getItem_tuple (j:=j) (Q:=fun r s'=>r=w/\EP X pins σ Q r s') pl (by omega) (by omega) (by rw[Jr,<-hl];exact h1) (by simpa using ew) ⟨rfl,fin⟩) hs
theorem Dd:ze X GI:=by
 intro value slice pins s σ H x y v u Q I rx ry h hs
 obtain⟨z,i,c,rfl,rfl,hz,he,q⟩:=h
 obtain⟨t,rfl⟩:=rx
 obtain⟨t',rfl⟩:=ry
 obtain⟨j,h1,h2,h3,h4,h5⟩:=j6 he
 have hl:z.cps.toList.length=z.length:=by simp[Str.length]
 rw[hl] at h1 h4 h5
 have hn:=jJ
 exact tail_any (typeIs_str s z t) slot_str_getitem.lookup (getItem_str (c:=c) (by
  have e1:decide (i < -(2^63:Int))=false:=decide_eq_false (by omega)
  have e2:decide (i>=2^63)=false:=decide_eq_false (by omega)
  rw[e1,e2,Bool.or_false]) (by rw[h1];simpa using h2) ⟨.str ⟨#[c]⟩,H,I.tok _,⟨_,rfl⟩,q⟩) hs
def Oa (K:Jc):R2:=fun x y H Q=>Fj K x y H Q∨GJ K x y H Q∨GI x y H Q
theorem Cu:ze X (Oa X.K):=AU.or (D8.or Dd)
theorem sJ (az:List Value)(n j:Nat)(u:Value):Obj.mapSeq (·.setIfInBounds j u) { cls := .type "list",data := .seq az.toArray n } = { cls := .type "list",data := .seq (az.set j u).toArray n }:=by
 simp[Obj.mapSeq]
theorem Inv.lst {pins:List (Addr×Obj)}{σ:St}{H:Hp}{s:Shared}{p:Addr}{xs:List V}(I:Inv X pins σ H s)(h:H p=some (.lst xs)):
  ∃(az:List Value) (n:Nat),Vals xs az/\s.heap.get? p=some { cls := .type "list",data := .seq az.toArray n } /\ xs.length<=sizeLine:=by
 obtain⟨z,az,n,r,e⟩:=I.aR p _ h
 exact⟨az,n,r,e,z⟩
theorem Inv.DL {pins:List (Addr×Obj)}{σ:St}{H:Hp}{s:Shared}{p:Addr}{xs ys:List V}{az its':List Value}{n n':Nat}{f:Obj->Obj}(I:Inv X pins σ H s)(h:H p=some (.lst xs))
  (ho:s.heap.get? p=some { cls := .type "list",data := .seq az.toArray n }) (hf:f { cls := .type "list",data := .seq az.toArray n } = { cls := .type "list",data := .seq its'.toArray n' }) (r:Vals ys its') (hz:ys.length<=sizeLine) (t:Nat) :
  Inv X pins σ (upd H p (.lst ys)) { s with heap:=s.heap.update p f,toks:=t }:=by
 have e:(s.heap.update p f).get? p=some { cls := .type "list",data := .seq its'.toArray n' }:=by
  rw[Ur f ho (by rw[hf]<;>rfl),hf]
 refine I.write (x:=p) (e:=p) (by rw[h];trivial) (.inl rfl) (fun b u hb q=>(Uq _ _ (Ne.symm hb)).trans q) ⟨_,e⟩ ?_
 exact⟨hz,its',n',r,e⟩
def G7:V->V->V->Hp->(Hp->Prop)->Prop:=fun o i v H Q=>lU fun p xs k j=>o = .ref p/\i = .int k/\H p=some (.lst xs)/\yA xs.length k=some j/\Q (upd H p (.lst (xs.set j v)))
theorem set_list:FL X G7:=by
 intro pins s σ H o i v ov iv u Q I ro ri rv h
 obtain⟨p,xs,k,j,rfl,rfl,hp,hj,q⟩:=h
 cases ro
 obtain⟨t,rfl⟩:=ri
 obtain⟨az,n,r,ho,hz⟩:=I.lst hp
 obtain⟨h1,h2,h3,h4⟩:=nJ hj
 have hl:=r.length
 have hn:=jJ
 have I':Inv X pins σ (upd H p (.lst (xs.set j v))) { s with heap:=s.heap.update p (Obj.mapSeq (·.setIfInBounds j u)) }:=
  I.DL hp ho (sJ az n j u) (r.set rv j) (by rw[List.length_set];exact hz) s.toks
 by_cases h0:0<=k
 ·have hk:k.toNat=j:=by
   rw[seqIndex_of h0 h4] at h1
   exact Option.some.inj h1
  exact PySem.W.ki_setAt ho h0 (by omega) (by rw[Jr,<-hl];exact h4) (by rw[hk];exact⟨_,I',q⟩)
 ·have hk:(k+(az.toArray.size:Int)).toNat=j:=by
   rw[seqIndex_neg (by omega) h3] at h1
   rw[Jr,<-hl]
   exact Option.some.inj h1
  exact PySem.W.ki_setBack ho (by omega) (by rw[Jr,<-hl];exact h3) (by omega) (by rw[hk];exact⟨_,I',q⟩)
theorem oD (lo hi:Option Int)(n:Nat):(sliceBounds lo hi none n).1=((HT.qk n 0 lo:Nat):Int)/\(sliceBounds lo hi none n).2.1=((HT.qk n n hi:Nat):Int)/\(sliceBounds lo hi none n).2.2=1:=by
 refine⟨?_,?_,rfl⟩
 ·cases lo with
  | none=>simp[sliceBounds,HT.qk]
  | some i=>
   simp only[sliceBounds,HT.qk,Option.getD_none,show(1:Int)>0 by decide,if_true]
   by_cases h:i<0
   ·simp only[h,if_true]<;>omega
   ·simp only[h,if_false]<;>omega
 ·cases hi with
  | none=>simp[sliceBounds,HT.qk]
  | some i=>
   simp only[sliceBounds,HT.qk,Option.getD_none,show(1:Int)>0 by decide,if_true]
   by_cases h:i<0
   ·simp only[h,if_true]<;>omega
   ·simp only[h,if_false]<;>omega
theorem lW (az:List Value)(lo hi:Option Int):slicePick az.toArray lo hi none=((az.drop (HT.qk az.length 0 lo)).take (HT.qk az.length az.length hi-HT.qk az.length 0 lo)).toArray:=by
 obtain⟨h1,h2,h3⟩:=oD lo hi az.toArray.size
 unfold slicePick
 rw[h1,h2,h3]
 simp only[sliceRange_one,pick_run,Jr]<;>rfl
def C5 (K:Jc):V->Option Int->Option Int->Hp->VK->Prop:=fun x lo hi H Q=>bO fun a xs=>x = .ref a/\aD K H a xs/\∀p,H p=none->Q (.ref p) (upd H p (.lst (qa xs lo hi)))
theorem A2:y8 X (C5 X.K):=by
 intro pins s σ H x v vl vu lo hi sl Q I rx hs pl pu h
 obtain⟨a,xs,rfl,hx,q⟩:=h
 cases rx
 obtain⟨az,r,ht,hz⟩:=I.list hx
 have hlen:=r.length
 refine⟨"list",_,slot_list_getitem.lookup,ht.isList.typeIs,?_⟩
 refine wpAny_getItem_list_slice ht.isList hs pl pu .none (by simp) ?_ (by rw[Jr]<;>omega)
 rw[lW,<-hlen]
 refine⟨.ref s.heap.objs.size,_,I.laid (t':=s.toks) (o := .lst (qa xs lo hi)) (fun b ob q=>Jb _ q) (Jf _) ?_,rfl,q _ (I.aR.fresh (Jf _))⟩
 exact⟨Ju (qR xs lo hi) hz,_,0,(r.drop (HT.qk xs.length 0 lo)).take (HT.qk xs.length xs.length hi-HT.qk xs.length 0 lo),Jo _ rfl⟩
noncomputable def jU:V->Bool
 | .non=>true
 | .bl _=>true
 | .int _=>true
 | .str _=>true
 | _=>false
noncomputable def Bu:V->V->Bool
 | .non,.non=>true
 | .bl a,.bl b=>a==b
 | .bl a,.int b=>(if a then 1 else 0)==b
 | .int a,.bl b=>a==(if b then 1 else 0)
 | .int a,.int b=>a==b
 | .str a,.str b=>a==b
 | _,_=>false
theorem Du {A:Around}{s:Shared}{y x:V}{u v:Value}(ry:RelV y u)(rx:RelV x v)(fy:jU y=true)(fx:jU x=true):SeqAt.EqAt A s u v (Bu y x):=by
 cases y with
 | non=>
  cases ry
  cases x with
  | non=>cases rx;exact SeqAt.EqAt.same _
  | bl b=>cases rx;exact SeqAt.EqAt.none_bool b
  | int b=>obtain⟨t,rfl⟩:=rx;exact SeqAt.EqAt.none_int b t
  | str b=>obtain⟨t,rfl⟩:=rx;exact SeqAt.EqAt.none_str b t
  | _=>exact absurd (show false=true from fx) Jm
 | bl a=>
  cases ry
  cases x with
  | non=>cases rx;exact SeqAt.EqAt.bool_none a
  | bl b=>cases rx;exact SeqAt.EqAt.bool_bool a b
  | int b=>obtain⟨t,rfl⟩:=rx;exact SeqAt.EqAt.bool_int a b t
  | str b=>obtain⟨t,rfl⟩:=rx;exact SeqAt.EqAt.bool_str a b t
  | _=>exact absurd (show false=true from fx) Jm
 | int a=>
  obtain⟨t',rfl⟩:=ry
  cases x with
  | non=>cases rx;exact SeqAt.EqAt.int_none a t'
  | bl b=>cases rx;exact SeqAt.EqAt.int_bool a t' b
  | int b=>obtain⟨t,rfl⟩:=rx;exact SeqAt.EqAt.int_int a t' b t
  | str b=>obtain⟨t,rfl⟩:=rx;exact SeqAt.EqAt.int_str a t' b t
  | _=>exact absurd (show false=true from fx) Jm
 | str a=>
  obtain⟨t',rfl⟩:=ry
  cases x with
  | non=>cases rx;exact SeqAt.EqAt.str_none a t'
  | bl b=>cases rx;exact SeqAt.EqAt.str_bool a t' b
  | int b=>obtain⟨t,rfl⟩:=rx;exact SeqAt.EqAt.str_int a t' b t
  | str b=>obtain⟨t,rfl⟩:=rx;exact SeqAt.EqAt.str_str a t' b t
  | _=>exact absurd (show false=true from fx) Jm
 | _=>exact absurd (show false=true from fy) Jm
noncomputable def zy (x:V)(u:Value):Bool:=match u with
 | .none=>Bu .non x
 | .bool b=>Bu (.bl b) x
 | .int i _=>Bu (.int i) x
 | .str z _=>Bu (.str z) x
 | _=>false
theorem w4 {x y:V}{u:Value}(r:RelV y u)(f:jU y=true):zy x u=Bu y x:=by
 cases y with
 | non=>cases r;rfl
 | bl b=>cases r;rfl
 | int i=>obtain⟨t,rfl⟩:=r;rfl
 | str z=>obtain⟨t,rfl⟩:=r;rfl
 | _=>exact absurd (show false=true from f) Jm
theorem oz {x:V}:∀{xs:List V} {us:List Value},Vals xs us->xs.all jU=true->us.any (zy x)=xs.any fun y=>Bu y x
 | _,_,.nil,_=>rfl
 | y::xs,u::us,.cons r t,f=>by
  rw[List.all_cons,Yh] at f
  rw[List.any_cons,List.any_cons,w4 r f.1,oz t f.2]
theorem lC {A:Around}{s:Shared}{x:V}{v:Value}(rx:RelV x v)(fx:jU x=true):∀{xs:List V} {us:List Value},Vals xs us->xs.all jU=true->∀u∈us,SeqAt.EqAt A s u v (zy x u)
 | _,_,.nil,_=>fun u hu=>by cases hu
 | y::xs,u::us,.cons r t,f=>fun u' hu=>by
  rw[List.all_cons,Yh] at f
  rcases J5.mp hu with rfl|hu
  ·rw[w4 r f.1];exact Du r rx f.1 fx
  ·exact lC rx fx t f.2 u' hu
noncomputable def OJ (x:V)(xs:List V):Bool:=xs.any fun y=>Bu y x
def Nr (K:Jc)(neg:Bool):R2:=fun x y H Q=>bO fun p xs=>y = .ref p/\(aD K H p xs∨fw K H p xs)/\jU x=true/\xs.all jU=true/\Q (.bl (if neg then !OJ x xs else OJ x xs)) H
theorem u6:fj X (compareOp .In) (Nr X.K false):=by
 intro pins s σ H x y v u Q I rx ry h
 obtain⟨p,xs,rfl,hq,fx,fs,q⟩:=h
 cases ry
 rcases hq with hq|hq
 ·obtain⟨az,r,pl,hz⟩:=I.list hq
  refine SeqAt.in_listAt (zy x) pl.isList (fun w hw=>lC rx fx r fs w (by simpa using hw)) ⟨.bl _,H,I,rfl,?_⟩
  rw[show az.toArray.any (zy x)=az.any (zy x) by simp,oz r fs]
  exact q
 ·obtain⟨az,r,pl,hz⟩:=I.tuple hq
  refine SeqAt.in_tupleAt (zy x) pl (fun w hw=>lC rx fx r fs w (by simpa using hw)) ⟨.bl _,H,I,rfl,?_⟩
  rw[show az.toArray.any (zy x)=az.any (zy x) by simp,oz r fs]
  exact q
theorem bU.or {f:Value}{r r':List V->Hp->VK->Prop}(h:bU X f r)(h':bU X f r'):bU X f (fun xs H Q=>r xs H Q∨r' xs H Q):=by
 intro pins s σ H xs us Q I rs q
 rcases q with q|q
 ·exact h s σ H xs us Q I rs q
 ·exact h' s σ H xs us Q I rs q
theorem nF:bU X (.type "list") (fun xs H Q=>∃p ys,xs=[.ref p]/\(aD X.K H p ys∨fw X.K H p ys)/\∀l,H l=none->Q (.ref l) (upd H l (.lst ys))):=by
 intro pins s σ H xs us Q I r h
 obtain⟨p,ys,rfl,hq,q⟩:=h
 obtain⟨u,rfl,rx⟩:=vals1 r
 cases rx
 have fin:∀(az:List Value),Vals ys az->ys.length<=sizeLine->∀(h':Heap) (c':Nat),(∀b o',s.heap.get? b=some o'->h'.get? b=some o') ->
   h'.get? s.heap.objs.size=some { cls := .type "list",dict:=none,data := .seq az.toArray c',slots := #[] } -> EP X pins σ Q (.ref s.heap.objs.size) { s with heap:=h' }:=fun az r' hz h' c' kp e=>
  ⟨.ref s.heap.objs.size,_,I.laid (t':=s.toks) kp (Jf _) (show bq X.prog X.w _ h' _ (.lst ys) from⟨hz,az,c',r',e⟩),rfl,q _ (I.aR.fresh (Jf _))⟩
 rcases hq with hq|hq
 ·obtain⟨az,r',pl,hz⟩:=I.list hq
  have hlen:=r'.length
  obtain⟨o,ho,hc,n,hd⟩:=pl.isList
  exact call_list_seq p (.inl rfl) ho hc hd (fun h' c' kp e=>fin az r' hz h' c' kp e) (by simp only[Jr]<;>omega)
 ·obtain⟨az,r',pl,hz⟩:=I.tuple hq
  have hlen:=r'.length
  obtain⟨o,ho,hc,n,hd⟩:=pl
  exact call_list_seq p (.inr rfl) ho hc hd (fun h' c' kp e=>fin az r' hz h' c' kp e) (by simp only[Jr]<;>omega)
def Lv (K:Jc)(T:String)(x:V)(H:Hp):Prop:=match x with
 | .str _=>T = "str"
 | .int _=>T = "int"
 | .ref p=>(T = "list" /\ ∃xs,aD K H p xs)∨(T = "tuple" /\ ∃o,K.lookup p=some o/\o.cls = .type "tuple" /\ o.dict=none) ∨
   (T = "dict" /\ ((∃kvs,H p=some (.dK kvs))∨∃kvs,H p=some (.dT kvs)))∨(T = "set" /\ bO fun S n=>H p=some (.set S n))
 | _=>False
theorem yn {pins:List (Addr×Obj)}{σ:St}{H:Hp}{s:Shared}{T:String}{x:V}{v:Value}(I:Inv X pins σ H s)(r:RelV x v)(ty:Lv X.K T x H):
  s.TypeIs v T/\∀a,v = .ref a->∃ob,s.heap.get? a=some ob/\ob.dict=none:=by
 cases x with
 | str z=>
  obtain⟨t,rfl⟩:=r
  cases (show T = "str" from ty)
  exact⟨typeIs_str s z t,fun _ e=>nomatch e⟩
 | int i=>
  obtain⟨t,rfl⟩:=r
  cases (show T = "int" from ty)
  exact⟨typeIs_int s i t,fun _ e=>nomatch e⟩
 | ref p=>
  cases r
  rcases ty with ⟨rfl,xs,hq⟩|⟨rfl,o,hk,hc,hd⟩|⟨rfl,hk⟩|⟨rfl,S,n,hk⟩
  ·obtain⟨az,_,pl,_⟩:=I.list hq
   refine⟨pl.isList.typeIs,fun a e =>?_⟩
   cases e
   obtain⟨o,n,e,c,hd,_⟩:=pl
   exact⟨o,e,hd⟩
  ·refine⟨⟨o,I.mH p o hk,hc⟩,fun a e =>?_⟩
   cases e
   exact⟨o,I.mH _ o hk,hd⟩
  ·have z:∃o,s.heap.get? p=some o/\o.ExactDict:=by
    rcases hk with ⟨kvs,hk⟩|⟨kvs,hk⟩
    ·obtain⟨_,_,_,_,o,_,_,e,ex,_⟩:=I.aR p _ hk
     exact⟨o,e,ex⟩
    ·obtain⟨_,_,_,_,o,_,_,e,ex,_⟩:=I.aR p _ hk
     exact⟨o,e,ex⟩
   obtain⟨o,e,ex⟩:=z
   refine⟨⟨o,e,ex.1⟩,fun a e2 =>?_⟩
   cases e2
   exact⟨o,e,ex.2.1⟩
  ·obtain⟨o,_,_,_,e,ex,_⟩:=I.aR p _ hk
   refine⟨⟨o,e,ex.1⟩,fun a e2 =>?_⟩
   cases e2
   exact⟨o,e,ex.2.1⟩
 | _=>exact False.elim ty
def Gr (K:Jc)(T:String)(r:V->List V->Hp->VK->Prop)(to:TE):TE:=fun σ H Q=>to σ H fun x H1=>Lv K T x H1/\r x [] H1 Q
def Nq (K:Jc)(T:String)(r:V->List V->Hp->VK->Prop)(to:TE)(t:TA):TE:=fun σ H Q=>to σ H fun x H1=>Lv K T x H1/\t σ H1 fun xs H2=>r x xs H2 Q
variable {o e:Expr}{es:List Expr}{to:TE}{t:TA}{name:Str}{apos gi:Pos}{T id:String}{r:V->List V->Hp->VK->Prop}
theorem CK (pa:PlainAttrs T)(slot:Slot T name id)(DY:typeOf (.builtin id)=pure (.type "method_descriptor"))(hm:B1 X id r)(ho:PE X o to)
  (kC:attributeBase o name X.env (eval o X.env)=eval o X.env:=by rfl) (lQ:(apos.endLine==gi.line)=true:=by rfl):PE X (.Call (.Attribute o name apos) [] [] gi) (Gr X.K T r to):=by
 intro pins s σ H Q I h
 refine wpAny_Call_method0_late kC lQ (aZ (ho s σ H _ I h) fun v s1 hz_ =>?_)
 refine ae.el hz_ _ ?_
 clear hz_
 rintro x H1 I1 r1 ⟨ty,q1⟩
 obtain⟨h1,h2⟩:=yn I1 r1 ty
 exact⟨T,id,pa,slot,DY,h1,h2,Calls.callWith_builtin rfl (PySem.evalArgs_none (hm s1 σ H1 x [] v [] Q I1 r1 .nil q1))⟩
theorem HE (pa:PlainAttrs T)(slot:Slot T name id)(DY:typeOf (.builtin id)=pure (.type "method_descriptor"))(hm:B1 X id r)(ho:PE X o to)(ha:PA X (e::es) t)
  (kC:attributeBase o name X.env (eval o X.env)=eval o X.env:=by rfl)
  (DG:((backTo gi (starEach (e::es) X.env)).all (fun x => !x.1)&&(backToKw gi (keywordEach [] X.env)).all (fun x=>x.1.isSome)
   && decide ((e::es).length+([]:List Keyword).length+(if ([]:List Keyword).isEmpty then 0 else 1)<30))=true:=by rfl)
  (lQ:(apos.endLine==gi.line)=true:=by rfl) (hs:starEach (e::es) X.env=(false,eval e X.env)::starEach es X.env:=by rfl) (rZ:(backTo gi (starEach es X.env)).any (·.1)=false:=by rfl) :
  PE X (.Call (.Attribute o name apos) (e::es) [] gi) (Nq X.K T r to t):=by
 intro pins s σ H Q I h
 refine wpAny_Call_method_late kC DG lQ rfl (aZ (ho s σ H _ I h) fun v s1 hz_ =>?_)
 refine ae.el hz_ _ ?_
 clear hz_
 rintro x H1 I1 r1 ⟨ty,q1⟩
 obtain⟨h1,h2⟩:=yn I1 r1 ty
 refine⟨T,id,pa,slot,DY,h1,h2,?_⟩
 have hA:=ha (pos:=gi) s1 σ H1 _ I1 q1
 rw[hs] at hA ⊢
 refine Calls.callWith_builtin (by show(false||(backTo gi (starEach es X.env)).any (·.1))=false;rw[rZ]<;>rfl) (Calls.evalArgs_plain ?_)
 exact aZ hA fun us s2 hz_=>ae.el hz_ _ fun vs H2 I2 r2 q2=>hm s2 σ H2 x vs v us Q I2 r1 r2 q2
end
def yf (X:Cx)(id:String)(r:V->List V->Hp->VK->Prop):Prop:=
 ∀ ⦃pins:List (Addr×Obj)⦄ (s:Shared) (σ:St) (H:Hp) (x:V) (xs:List V) (v:Value) (us:List Value) (Q:VK),Inv X pins σ H s->RelV x v->Vals xs us->r x xs H Q ->
  wpAny (model X.prog X.w) X.A (call (.builtin id) (v::us)) (EP X pins σ Q) X.xe s
theorem Vals.hd {x:V}{xs:List V}{us:List Value}(h:Vals (x::xs) us):∃u r,us=u::r/\RelV x u/\Vals xs r:=by
 cases h with|cons a b=>exact⟨_,_,rfl,a,b⟩
theorem Vals.one {x:V}{us:List Value}(h:Vals [x] us):∃u,us=[u]/\RelV x u:=by
 obtain⟨u,r,rfl,a,h⟩:=h.hd
 cases h
 exact⟨_,rfl,a⟩
theorem Vals.two {x y:V}{us:List Value}(h:Vals [x,y] us):∃u v,us=[u,v]/\RelV x u/\RelV y v:=by
 obtain⟨u,r,rfl,a,h⟩:=h.hd
 obtain⟨v,rfl,b⟩:=h.one
 exact⟨_,_,rfl,a,b⟩
theorem Vals.zero:∀{us:List Value},Vals [] us->us=[]
 | _,.nil=>rfl
theorem Vals.dropLast {xs:List V}{us:List Value}(h:Vals xs us):Vals xs.dropLast us.dropLast:=by
 induction h with
 | nil=>exact .nil
 | cons r t ih=>
  cases t with
  | nil=>exact .nil
  | cons q t'=>exact .cons r ih
theorem Vals.eraseIdx:∀{xs:List V} {us:List Value} (i:Nat),Vals xs us->Vals (xs.eraseIdx i) (us.eraseIdx i)
 | _,_,_,.nil =>.nil
 | _,_,0,.cons _ t=>t
 | _,_,i+1,.cons r t =>.cons r (Vals.eraseIdx i t)
theorem Vals.rep {xs:List V}{us:List Value}(h:Vals xs us):∀k:Nat,Vals (Jp k xs).flatten (Jp k us).flatten
 | 0 =>.nil
 | k+1=>by
  rw[U7,U7,List.flatten_cons,List.flatten_cons]
  exact Vals.append h (Vals.rep h k)
theorem rC {α:Type}(l:List α):l.eraseIdx (l.length-1)=l.dropLast:=by
 induction l with
 | nil=>rfl
 | cons a r ih=>
  cases r with
  | nil=>rfl
  | cons b r=>
   have e:(a::b::r).length-1=((b::r).length-1)+1:=by
    have h1:(a::b::r).length=r.length+2:=rfl
    have h2:(b::r).length=r.length+1:=rfl
    omega
   rw[e,List.eraseIdx_cons_succ,ih]
   all_goals rfl
theorem mI {α:Type}:∀(l:List α) (i:Nat),(l.eraseIdx i).length<=l.length
 | [],_=>Jf _
 | _::_,0=>Yv _
 | _::r,i+1=>Wc (mI r i)
theorem foldl_rep (az:List Value):∀(k:Nat) (acc:List Value),
  List.foldl (fun x1 x2=>x1++x2) acc.toArray (Jp k az.toArray)=(acc++(Jp k az).flatten).toArray
 | 0,acc=>by simp
 | k+1,acc=>by
  have e:acc.toArray++az.toArray=(acc++az).toArray:=by simp
  have e2:(acc++az)++(Jp k az).flatten=acc++(Jp (k+1) az).flatten:=by
   rw[U7,List.flatten_cons,Uv]
  rw[<-e2,<-foldl_rep az k (acc++az),<-e,U7,List.foldl_cons]
section
variable {X:Cx}{pins:List (Addr×Obj)}{σ:St}{H:Hp}{s:Shared}{l b:Addr}{xs ys zs:List V}
theorem Inv.vb {az its':List Value}{n:Nat}{f:Array Value->Array Value}{t':Nat}(I:Inv X pins σ H s)(hH:H l=some (.lst xs))
  (e:s.heap.get? l=some { cls := .type "list",data := .seq az.toArray n }) (hf:f az.toArray=its'.toArray) (hv:Vals ys its') (hz:ys.length<=sizeLine) :
  Inv X pins σ (upd H l (.lst ys)) { s with heap:=s.heap.update l (Obj.mapSeq f),toks:=t' }:=by
 have q:=PySem.IsL.update e f
 rw[hf] at q
 refine I.write (x:=l) (e:=l) (by rw[hH];exact trivial) (.inl rfl) (fun b' u hb hu=>(Uq s.heap (Obj.mapSeq f) (Ne.symm hb)).trans hu) ⟨_,q⟩ ?_
 exact⟨hz,its',_,hv,q⟩
theorem Inv.FI {az:List Value}{t':Nat}(I:Inv X pins σ H s)(hv:Vals ys az)(hz:ys.length<=sizeLine):
  Inv X pins σ (upd H s.heap.objs.size (.lst ys)) { s with heap:=s.heap.push { cls := .type "list",data := .seq az.toArray },toks:=t' }:=
 I.laid (fun _ _ q=>Jb _ q) (Jf _) ⟨hz,az,0,hv,Jo _ rfl⟩
theorem Inv.fresh (I:Inv X pins σ H s):H s.heap.objs.size=none:=I.aR.fresh (Jf _)
theorem Inv.l8 (I:Inv X pins σ H s)(hH:H l=some (.lst xs)):xs.length<=sizeLine/\∃(az:List Value) (n:Nat),Vals xs az/\xs.length=az.length/\s.heap.get? l=some { cls := .type "list",data := .seq az.toArray n }:=by
 obtain⟨z,az,n,r,e⟩:=I.aR l _ hH
 exact⟨z,az,n,r,r.length,e⟩
theorem qJ {n:Nat}(h:n<=sizeLine):Builtin.List.listTooLong n=false:=by
 unfold Builtin.List.listTooLong
 exact decide_eq_false (by omega)
end
section
variable {X:Cx}
def zS:V->List V->Hp->VK->Prop:=fun x vs H Q=>fq fun l xs y=>x = .ref l/\vs=[y]/\H l=some (.lst xs)/\xs.length<sizeLine/\Q .non (upd H l (.lst (xs++[y])))
theorem vD:yf X "list.append" zS:=by
 intro pins s σ H x vs v us Q I rx rv h
 obtain⟨l,xs,y,rfl,rfl,hH,hz,q⟩:=h
 cases rx
 obtain⟨u,rfl,ru⟩:=rv.one
 obtain⟨z,az,n,r,hl,e⟩:=I.l8 hH
 refine call_meets F.slot_list_append ⟨_,e,rfl⟩ F.entry_list_append (F.args_list_append_2 _ _) (PySem.list_append l az.toArray n u (by rw[Jr];omega)) ⟨e,?_⟩
 refine⟨.non,_,I.vb (its':=az++[u]) hH e (by simp) (r.append (.cons ru .nil)) ?_,rfl,q⟩
 rw[Je,List.length_singleton]
 omega
def AX:V->List V->Hp->VK->Prop:=fun x vs H Q=>lU fun l b xs zs=>x = .ref l/\vs=[.ref b]/\H l=some (.lst xs)/\H b=some (.lst zs)/\xs.length+zs.length<=sizeLine/\Q .non (upd H l (.lst (xs++zs)))
theorem vn:yf X "list.extend" AX:=by
 intro pins s σ H x vs v us Q I rx rv h
 obtain⟨l,b,xs,zs,rfl,rfl,hH,hB,hz,q⟩:=h
 cases rx
 obtain⟨u,rfl,ru⟩:=rv.one
 cases ru
 obtain⟨z,az,n,r,hl,e⟩:=I.l8 hH
 obtain⟨z2,its2,n2,r2,vK,e2⟩:=I.l8 hB
 have hsz:az.toArray.size+its2.toArray.size<=sizeLine:=by rw[Jr,Jr];omega
 have yw:¬(!az.toArray.isEmpty&&Builtin.List.listTooLong (az.toArray.size+its2.toArray.size))=true:=by
  rw[qJ hsz,Bool.and_false]
  exact Jm
 refine call_meets F.slot_list_extend ⟨_,e,rfl⟩ F.entry_list_extend (F.args_list_extend_2 _ _)
  (AutoSeq1.list_extend_list_list_0 l az.toArray n b its2.toArray n2 yw (by rw[Jr];omega) (by omega)) ⟨e,e2,?_⟩
 refine⟨.non,_,I.vb (its':=az++its2) hH e (by simp) (r.append r2) ?_,rfl,q⟩
 rw[Je]
 omega
def M7:V->List V->Hp->VK->Prop:=fun x vs H Q=>fq fun l xs y=>x = .ref l/\vs=[]/\H l=some (.lst xs)/\xs[xs.length-1]? = some y/\Q y (upd H l (.lst xs.dropLast))
theorem Dt:yf X "list.pop" M7:=by
 intro pins s σ H x vs v us Q I rx rv h
 obtain⟨l,xs,y,rfl,rfl,hH,hy,q⟩:=h
 cases rx
 have GY:=rv.zero
 subst GY
 obtain⟨z,az,n,r,hl,e⟩:=I.l8 hH
 obtain⟨u,hu,ru⟩:=r.get hy
 have Mv:az.toArray[az.toArray.size-1]? = some u:=by
  show az.toArray[az.length-1]? = some u
  rw[<-Uh,<-hl]
  exact hu
 refine call_meets F.slot_list_pop ⟨_,e,rfl⟩ F.entry_list_pop (F.args_list_pop_1 _) (MeetsSeq.list_pop_last l az.toArray n u Mv (by rw[Jr];omega)) ⟨e,?_⟩
 refine⟨y,_,I.vb (its':=az.dropLast) hH e ?_ r.dropLast ?_,ru,q⟩
 ·show az.toArray.eraseIdxIfInBounds (az.toArray.size-1)=az.dropLast.toArray
  rw[Jr,List.eraseIdxIfInBounds_toArray,rC]
 ·rw[List.length_dropLast]
  omega
def D6:V->List V->Hp->VK->Prop:=fun x vs H Q=>Ej fun l xs i k y=>x = .ref l/\vs=[.int i]/\H l=some (.lst xs) /\ -(2^63)<=i/\i<2^63/\seqIndex? i xs.length=some k/\xs[k]? = some y/\Q y (upd H l (.lst (xs.eraseIdx k)))
theorem wF:yf X "list.pop" D6:=by
 intro pins s σ H x vs v us Q I rx rv h
 obtain⟨l,xs,i,k,y,rfl,rfl,hH,h1,h2,hk,hy,q⟩:=h
 cases rx
 obtain⟨u,rfl,ru⟩:=rv.one
 obtain⟨t,rfl⟩:=ru
 obtain⟨z,az,n,r,hl,e⟩:=I.l8 hH
 obtain⟨w,hw,oU⟩:=r.get hy
 refine call_meets F.slot_list_pop ⟨_,e,rfl⟩ F.entry_list_pop (F.args_list_pop_2 _ _)
  (MeetsSeq.list_pop_at l az.toArray n i t k w (fitsIndex_both h1 h2) (by rw[Jr,<-hl];exact hk) (by rw[<-Uh];exact hw) (by rw[Jr];omega)) ⟨e,?_⟩
 refine⟨y,_,I.vb (its':=az.eraseIdx k) hH e ?_ (r.eraseIdx k) ?_,oU,q⟩
 ·show az.toArray.eraseIdxIfInBounds k=(az.eraseIdx k).toArray
  rw[List.eraseIdxIfInBounds_toArray]
 ·have:=mI xs k
  omega
def GX:R2:=fun x y H Q=>lU fun l b xs zs=>x = .ref l/\y = .ref b/\H l=some (.lst xs)/\H b=some (.lst zs)/\xs.length+zs.length<=sizeLine/\∀p,H p=none->Q (.ref p) (upd H p (.lst (xs++zs)))
theorem CM:fj X (binaryOp .Add) GX:=by
 intro pins s σ H x y v u Q I rx ry h
 obtain⟨l,b,xs,zs,rfl,rfl,hH,hB,hz,q⟩:=h
 cases rx
 cases ry
 obtain⟨z,az,n,r,hl,e⟩:=I.l8 hH
 obtain⟨z2,its2,n2,r2,vK,e2⟩:=I.l8 hB
 refine PySem.P.add_list e e2 ?_ (by rw[Jr,Jr];omega)
 have ea:az.toArray++its2.toArray=(az++its2).toArray:=by simp
 rw[ea]
 exact⟨.ref _,_,I.FI (t':=s.toks) (r.append r2) (by rw[Je];omega),rfl,q _ I.fresh⟩
def Fg:R2:=fun x y H Q=>fq fun l k xs=>x = .ref l/\y = .int k/\H l=some (.lst xs) /\ -(2^63)<=k/\k<2^63/\xs.length*k.toNat<=sizeLine /\
 ∀p,H p=none->Q (.ref p) (upd H p (.lst (Jp k.toNat xs).flatten))
theorem len_rep {α:Type}(xs:List α)(k:Nat):(Jp k xs).flatten.length=k*xs.length:=by
 induction k with
 | zero=>simp
 | succ k ih=>rw[U7,List.flatten_cons,Je,ih,Nat.succ_mul,Nat.add_comm]
theorem CY:fj X (binaryOp .Mult) Fg:=by
 intro pins s σ H x y v u Q I rx ry h
 obtain⟨l,k,xs,rfl,rfl,hH,h1,h2,hz,q⟩:=h
 cases rx
 obtain⟨t,rfl⟩:=ry
 obtain⟨z,az,n,r,hl,e⟩:=I.l8 hH
 have hlen:az.toArray.size*k.toNat<=sizeLine:=by rw[Jr,<-hl];exact hz
 have Ki:¬az.toArray.size*k.toNat>(2^63-1) / 8:=by
  have:(sizeLine:Nat)<=(2^63-1) / 8:=by decide
  omega
 have JV:¬(!Builtin.List.listFitsIndex k)=true:=by
  rw[fitsIndex_both h1 h2]
  exact Jm
 have yw:¬Builtin.List.listTooLong (az.toArray.size*k.toNat)=true:=by
  rw[qJ hlen]
  exact Jm
 have rG:List.foldl (fun x1 x2=>x1++x2) #[] (Jp (if az.toArray.isEmpty=true then 0 else k.toNat) az.toArray)=(Jp k.toNat az).flatten.toArray:=by
  have f0:∀m:Nat,List.foldl (fun x1 x2=>x1++x2) #[] (Jp m az.toArray)=(Jp m az).flatten.toArray:=fun m=>by
   have:=foldl_rep az m []
   rw[List.nil_append] at this
   exact this
  rw[f0]
  cases az with
  | nil=>simp
  | cons a r'=>rw[if_neg (by simp)]
 refine wpAny_binaryOp_repeat_ref (T := "list") (U := "int") (by decide) ⟨_,e,rfl⟩ (fun s'=>typeIs_int s' k t) noFill_list_mul F.fills_int_mul F.slot_int_rmul repeat_list F.slot_int_index.lookup
  (call_meets F.slot_int_rmul (typeIs_int s k t) F.entry_int_rmul (F.args_int_rmul_2 _ _) (int___rmul___int_list k t l az.toArray n)
   ⟨e,rfl,⟨_,e,rfl⟩,call_meets F.slot_list_mul ⟨_,e,rfl⟩ F.entry_list_mul (F.args_list_mul_2 _ _) (AutoListH.list___mul___list_int_3 l az.toArray n k t JV Ki yw) ⟨e,?_⟩⟩)
 rw[rG]
 exact⟨.ref _,_,I.FI (t':=s.toks) (r.rep k.toNat) (by rw[len_rep,Nat.mul_comm];exact hz),rfl,q _ I.fresh⟩
end
section
variable {prog:Program}{w:World}{A:Around}{E:Value->Shared->Prop}{s:Shared}
set_option maxRecDepth 100000 in
end
end L2
namespace Att
open PySem PySem.W PySem.Calls PyProof.Rows
theorem jY {P:Params}{h:Heap}:∀(ns:List Int) (vs:List Value),WellAll P h vs (ns.map WData.int)->IntsAre vs ns:=by
 intro ns
 induction ns with
 | nil=>
  intro vs w
  rw[List.map_nil] at w
  cases w
  exact .nil
 | cons n ns ih=>
  intro vs w
  rw[Uc] at w
  cases w with
  | cons a b=>
   cases a
   exact .cons _ _ (ih _ b)
theorem u0 {l:OpenLaw}{n:Nat}(hn:l.most=some n){P:Params}{h:Heap}{args:List WData}{vals:List Value}
  (A6:l.row.toRowW.claim.pre args=true) (L4:WellAll P h vals args) :
  ∃a vs ns,vals=[Value.ref a]/\args=[WData.list (ns.map WData.int)]/\h.get? a=some { cls := .type "list",data := .seq vs.toArray } /\ IntsAre vs ns/\ns.length<=n:=by
 have Q3:WShape.hasAll [] args [.list .int]=true:=(pre_splitW A6).1
 have hc:l.pre.holds [] { args:=args } = true:=(pre_splitW A6).2
 obtain⟨d,r,rfl,h1,h2⟩:=hasAllW_cons Q3
 obtain rfl:=hasAllW_nil h2
 obtain⟨xs,rfl,h3⟩:=hasW_list h1
 obtain⟨ns,rfl⟩:=items_int h3
 have hlen:ns.length<=n:=by
  unfold OpenLaw.pre at hc
  have h4:(WTm.not (.lt (.lit (.int (n:Int))) (.len (.arg 0)))).holds [] { args:=[.list (ns.map .int)] } = true:=by
   have h4:=(holds_andW hc).1
   rw[hn] at h4
   exact h4
  have h5:=condW_of h4 (w_not (w_lt w_lit (w_len_list (w_arg rfl))))
  rw[Ja] at h5
  refine Y2 fun q =>?_
  have q':(n:Int)<((ns.length:Nat):Int):=by omega
  first
   | (rw[decide_eq_true q'] at h5;exact absurd h5 (by decide))
   | (simp at h5;omega)
 cases L4 with
 | cons w1 w2=>
  cases w2
  cases w1 with
  | list ho eg=>exact⟨_,_,ns,rfl,rfl,ho,jY ns _ eg,hlen⟩
theorem uO (l:OpenLaw)(args:List WData):l.row.toRowW.claim.post args (.bool true) args=true:=
 postW_of (r:=l.row.toRowW) (X:=(true==true))
  (show WShape.has [] (.bool true) .bool=true by first|rfl|decide|simp[WShape.has,WShape.arms,WShape.armsAll])
  (show(WTm.eq .res (.lit (.bool true))).value [] { args:=args,res:=some (.bool true),after:=args } = some (.bool (true==true)) from w_eq_bool (w_res rfl) w_lit) rfl
theorem qo {l:OpenLaw}{n:Nat}{q:Program}{loose:List Str}{XP:(Str->Option Value)->Heap->Prop}{YP:World->Heap->Prop}{d:DefRec}
  (hn:l.most=some n) (Hv:d.params.defaults=[])
  (call:∀(w:World) (s₀ s₁:Shared) (mg mb:Str->Option Value) (fa:Addr) (o:Obj) (pm cd doc:Value) (a:Addr) (vs:List Value) (ns:List Int),
   Ground q loose [] XP w s₀ mg mb s₁.heap->YP w s₁.heap ->
   s₁.heap.get? fa=some o->o.data = .func (docDef d.name d.params d.body d.scope pm cd doc)->s₁.heap.CodeRec cd d.name->mg d.name=some (.ref fa) ->
   s₁.heap.get? a=some { cls := .type "list",data := .seq vs.toArray } -> IntsAre vs ns->ns.length<=n->s₁.gens = #[] ->
   codeAny (model l.prog w) callerA (.call (.ref fa) ⟨[.ref a],[]⟩) (fun r s'=>r = .ok (.ret (.bool true))/\OldK s₁.heap s'.heap/\s'.os=s₁.os/\AllBare s'.gens) s₁) :
  WalkO q loose XP YP l.row.toRowW d [] (fun f vs=>PySem.call f vs):=by
 intro w s₀ s₁ mg mb G Y fa o pm cd doc dV kV ho hd qx hD hmg hg args vals as A6 hlay hrd L4 yR
 obtain rfl:dV = .none:=Dflts.none hD Hv
 obtain rfl:kV = .none:=Dflts.noKw hD
 obtain⟨a,vs,ns,rfl,rfl,hobj,hints,hlen⟩:=u0 hn A6 L4
 refine enter_call (codeAny_mono (call w s₀ s₁ mg mb fa o pm cd doc a vs ns G Y ho (fd_plain hd) qx hmg hobj hints hlen hg) fun r s' hq =>?_)
 obtain⟨rfl,h2,h3,h4⟩:=hq
 exact⟨.inl ⟨.bool true,.bool true,[],rfl,fun _=>rfl,.bool true,uO l _,fun _=>⟨List.Pairwise.nil,fun _ hm=>(nomatch hm)⟩⟩,h2,h3,h4⟩
end Att
namespace L2
open PySem PySem.Spec PyProof.Rows
theorem uK {vs:List Value}{ns:List Int}(h:IntsAre vs ns):Vals (ns.map V.int) vs:=by
 induction h with
 | nil=>exact .nil
 | cons n t h ih=>exact .cons ⟨t,rfl⟩ ih
noncomputable def fN (s:Stmt):Arguments:=match s with
 | .FunctionDef _ a _ _ _ _ _ _ _ _=>a
 | _=>{ posonlyargs:=[],args:=[],vararg:=none,kwonlyargs:=[],kw_defaults:=[],kwarg:=none,defaults:=[] }
noncomputable def dG (s:Stmt):List Stmt:=match s with
 | .FunctionDef _ _ b _ _ _ _ _ _ _=>b
 | _=>[]
noncomputable def aB (s:Stmt):Scope:=match s with
 | .FunctionDef _ _ _ _ _ _ sc _ _ _=>sc
 | _=>{ kind := .function,names:=[],isGenerator:=false,isCoroutine:=false }
abbrev fY:uY:=fun _ _ _ _ _ _=>False
abbrev E0:XK:=fun _ _ _=>False
theorem GG {X:Cx}:Passes fY X E0:=fun _ _ _ _ _ _ _ h=>h.elim
structure cY (K:Jc)(x qual:Str)(st:Stmt)(f:Addr)(fd:FuncData):Prop where
 ex:∃(oc:Value) (od:Option Addr) (kV doc pm:Value) (an:Option Addr) (d9 ct:Value) (zx:Array (Option Value)),
  fd=Wk x qual (fN st) (dG st) (aB st) .none kV doc pm an d9 ct/\K.lookup f=some ⟨oc,od,.func fd,zx⟩/\PySem.W.codeIn K d9 qual=true
 kp:PySem.W.keepIn K (.ref f)=true
section
variable {P:Program}{w:World}{K:Jc}{mg:Str->Option Value}{base:Heap}
theorem cY.ok {x qual:Str}{st:Stmt}{f:Addr}{fd:FuncData}{N ps:List Str}{k:Nat}{sp:Sp}(F:cY K x qual st f fd)(S:aN N ps (aB st))(len:∀vs H Q E,sp vs H Q E->vs.length=ps.length)
  (kN:∀(d9:Value) (A:Around) (outer:List Env) (s:Shared) (H:Hp) (vs:List V) (Q:VK) (E:XK),dS k (A.deeper (envOfC qual (aB st) s.heap.objs.size f d9))->sp vs H Q E ->
   ∃t,tK (om fY P w K mg base N qual (aB st) f d9 A outer s H E).CQ (dG st) t/\t { nx:=fun _ H'=>Q .non H',rt:=Q } (start N vs) H):bI P w K mg base fY (k+1) f fd ps sp:=by
 obtain⟨oc,od,kV,doc,pm,an,d9,ct,zx,rfl,lk,qx⟩:=F.ex
 refine BF lk qx S len fun A outer s H vs Q E hr rK =>?_
 obtain⟨t,h,q⟩:=kN d9 A outer s H vs Q E hr rK
 exact⟨t,h.CQ,q⟩
theorem cY.binds {x qual:Str}{st:Stmt}{f:Addr}{fd:FuncData}{ps:List Str}(F:cY K x qual st f fd)
  (h:∀(kV doc pm:Value) (an:Option Addr) (d9 ct:Value) (us:List Value),us.length=ps.length->bindArgs (Wk x qual (fN st) (dG st) (aB st) .none kV doc pm an d9 ct) ⟨us,[]⟩=pure (ps.zip us)):Binds K fd ps []:=by
 obtain⟨oc,od,kV,doc,pm,an,d9,ct,zx,rfl,lk,qx⟩:=F.ex
 exact .all (h kV doc pm an d9 ct)
theorem bw {x qual:Str}{st:Stmt}{f:Addr}{oc:Value}{od an:Option Addr}{zx:Array (Option Value)}{kV doc pm d9 ct:Value}(l:K.lookup f=some ⟨oc,od,.func (Wk x qual (fN st) (dG st) (aB st) .none kV doc pm an d9 ct),zx⟩)
  (c:PySem.W.codeIn K d9 qual=true) (k:PySem.W.keepIn K (.ref f)=true):cY K x qual st f (Wk x qual (fN st) (dG st) (aB st) .none kV doc pm an d9 ct):=⟨⟨oc,od,kV,doc,pm,an,d9,ct,zx,rfl,l,c⟩,k⟩
end
theorem gA {A:Around}{k:Nat}(hr:dS k A):A.units+1<cLine:=Ue (U8 (by decide:1<=64) _) hr.units
section
variable {X:Cx}
theorem pv (i:Nat){x:Str}{pos:Pos}(hN:X.N[i]? = some x:=by rfl)(hv:GN X.env.scope x:=by first|exact Or.inl rfl|exact Or.inr (Or.inl rfl)|exact Or.inr (Or.inr rfl))(hd:(x==("__debug__" : Str))=false:=by decide)
  (qx:(x==("__classdict__" : Str))=false:=by decide):PE X (.Name x pos) (wx i):=B5 hN hv hd qx
end
theorem bA {A B:Prop}(h:B):if false=true then A else B:=by
 rw[if_neg Jm]
 exact h
theorem cj {A B:Prop}(h:A):if true=true then A else B:=by
 rw[if_pos rfl]
 exact h
theorem eX {c A B:Prop}[Decidable c](h1:c->A)(h2:¬c->B):if c then A else B:=by
 by_cases h:c
 ·rw[if_pos h]
  exact h1 h
 ·rw[if_neg h]
  exact h2 h
def au (H H':Hp):Prop:=∀b o,H b=some o->H' b=some o
theorem au.refl (H:Hp):au H H:=fun _ _ h=>h
theorem au.trans {H H1 H2:Hp}(a:au H H1)(b:au H1 H2):au H H2:=fun c o h=>b c o (a c o h)
theorem au.free {H H':Hp}(e:au H H'){l:Addr}(h:H' l=Option.none):H l=Option.none:=by
 cases q:H l with
 | none=>rfl
 | some o=>
  rw[e l o q] at h
  cases h
theorem au.seq {K:Jc}{H H':Hp}{a:Addr}{xs:List V}(e:au H H')(h:aD K H a xs):aD K H' a xs:=by
 rcases h with (h|⟨o,h⟩)|h
 ·exact .inl (.inl (e _ _ h))
 ·exact .inl (.inr ⟨o,e _ _ h⟩)
 ·exact .inr h
section
variable {X:Cx}
theorem mM:bU X (.builtin "len") (fun xs H Q=>∃a kvs,xs=[V.ref a]/\H a=some (.dK kvs)/\Q (.int kvs.length) H):=by
 intro pins s σ H xs us Q I r h
 obtain⟨a,kvs,rfl,ha,q⟩:=h
 obtain⟨u,rfl,ru⟩:=vals1 r
 cases ru
 exact GH I (.inl ha) fun t s' I'=>⟨.int kvs.length,H,I',⟨t,rfl⟩,q⟩
end
section
variable {κ:Type}[DecidableEq κ]
theorem gQ {kvs:List (κ×V)}{k: κ}(h:av kvs k=none):¬k∈kvs.map (·.1):=by
 intro m
 obtain⟨p,hp,e⟩:=J0.mp m
 have q:(kvs.any fun kv=>decide (kv.1=k))=true:=List.any_eq_true.mpr ⟨p,hp,decide_eq_true e⟩
 rw[dQ,h] at q
 exact absurd q (by simp)
theorem oB {kvs:List (κ×V)}{k: κ}{v:V}(h:av kvs k=some v):k∈kvs.map (·.1):=by
 have q:(kvs.any fun kv=>decide (kv.1=k))=true:=by
  rw[dQ,h]
  all_goals rfl
 obtain⟨p,hp,e⟩:=List.any_eq_true.mp q
 exact J0.mpr ⟨p,hp,of_decide_eq_true e⟩
theorem tZ:∀{l:List κ} {k: κ},l.Nodup->¬k∈l->(l++[k]).Nodup
 | [],k,_,_=>by simp
 | a::r,k,h,hk=>by
  obtain⟨h1,h2⟩:=U2.mp h
  show(a::(r++[k])).Nodup
  refine U2.mpr ⟨fun m =>?_,tZ h2 fun m=>hk (J5.mpr (Or.inr m))⟩
  rcases Ji.mp m with q|q
  ·exact h1 q
  ·exact hk (J5.mpr (Or.inl (Jd.mp q).symm))
end
end L2
set_option maxHeartbeats 4000000
namespace L2
open PySem PySem.Spec PyProof.Rows
abbrev gh:Value->Shared->Prop:=fun _ _=>False
theorem bB {α:Type}{M:Model}{A:Around}{t:Sem α}{Q: α->Shared->Prop}{E:Value->Shared->Prop}{s:Shared}(h:wpAny M A t Q gh s):wpAny M A t Q E s:=
 wpAny_mono h (fun _ _ q=>q) fun _ _ z=>z.elim
theorem cn {a b:Addr}{n:Nat}(h:a<n)(h':n<=b):a≠b:=fun e=>absurd (Jv h h') (by rw[e];exact Ya _)
theorem lT {a b:Addr}{n:Nat}(h:a<n)(h':n<=b):b≠a:=fun e=>cn h h' e.symm
theorem iI (env:Env):∀(names:List (Str×NameKind)) (acc:List (Str×Addr)),
  (∀y∈names,y.2 = .free->∃c,env.cells.lookup y.1=some c)->(∀n c,acc.lookup n=some c->env.cells.lookup n=some c) ->
  ∃cl,(forIn names acc fun(x:Str×NameKind) (cs:List (Str×Addr))=>(if (x.2==NameKind.free)=true then do
    let a <-cellOf env x.1
    pure (ForInStep.yield ((x.1,a)::cs)) else pure (ForInStep.yield cs):Sem (ForInStep (List (Str×Addr)))))=pure cl /\
   (∀n c,cl.lookup n=some c->env.cells.lookup n=some c)/\(∀n c,acc.lookup n=some c->∃c',cl.lookup n=some c')/\∀y∈names,y.2 = .free->∃c,cl.lookup y.1=some c
 | [],acc,_,h2=>⟨acc,rfl,h2,fun _ c h=>⟨c,h⟩,fun _ h=>nomatch h⟩
 | (n,k)::r,acc,h1,h2=>by
  have hr:∀y∈r,y.2 = .free->∃c,env.cells.lookup y.1=some c:=fun y hy=>h1 y (Jq _ hy)
  by_cases hk:k = .free
  ·subst hk
   obtain⟨c,hc⟩:=h1 (n,.free) Js rfl
   obtain⟨cl,e,p1,p2,p3⟩:=iI env r ((n,c)::acc) hr (fun m d hm=>by
    rw[Ux] at hm
    by_cases q:m==n
    ·rw[q] at hm
     have:m=n:=by simpa using q
     subst this
     cases hm
     exact hc
    ·have q':(m==n)=false:=by simpa using q
     rw[q'] at hm
     exact h2 m d hm)
   refine⟨cl,?_,p1,fun m d hm =>?_,fun y hy hf =>?_⟩
   ·rw[Wi]
    rw[<-e]
    show(cellOf env n >>= fun a=>_) >>= _=_
    unfold cellOf
    rw[hc]
    rfl
   ·by_cases q:m=n
    ·subst q
     exact p2 m c (by rw[Ux];simp)
    ·exact p2 m d (by rw[Ux];simp -iota only [beq_eq_false_iff_ne.mpr q];exact hm)
   ·rcases J5.mp hy with rfl|hy
    ·exact p2 n c (by rw[Ux];simp)
    ·exact p3 y hy hf
  ·refine ae.el (iI env r acc hr h2) _ ?_
   rintro cl e p1 p2 p3
   refine⟨cl,?_,p1,p2,fun y hy hf =>?_⟩
   ·rw[Wi,<-e]
    have hb:(k==NameKind.free)=false:=by simpa using hk
    simp -iota only [hb,Ua,if_false]
    rfl
   ·rcases J5.mp hy with rfl|hy
    ·exact absurd hf hk
    ·exact p3 y hy hf
theorem iE {scope:Scope}{env:Env}(h:∀y∈scope.names,y.2 = .free->∃c,env.cells.lookup y.1=some c):
  ∃cl,closureFor scope env=pure cl/\(∀n c,cl.lookup n=some c->env.cells.lookup n=some c)/\∀y∈scope.names,y.2 = .free->∃c,cl.lookup y.1=some c:=by
 obtain⟨cl,e,p1,_,p3⟩:=iI env scope.names [] h (fun n c h=>by simp at h)
 refine⟨cl,?_,p1,p3⟩
 unfold closureFor
 refine Eq.trans ?_ (congrArg (fun m=>m >>= fun(cs:List (Str×Addr))=>(pure cs:Sem _)) e)
 rfl
noncomputable def nh (ifs:List Expr)(env:Env):Sem Bool:=forIn ifs true fun c r=>if r=true then do let ok <-isTrue c env (eval c env);pure (ForInStep.yield ok) else pure (ForInStep.yield r)
section
variable {prog:Program}{w:World}{A:Around}{R:Result->Shared->Prop}{s:Shared}
theorem sL {elt target iter:Expr}{ifs:List Expr}{scope:Scope}{pos:Pos}{it acc:Value}{env:Env}(I:Nat->Shared->Prop)
  (turn:∀n s,I n s->wpAny (model prog w) A (pyNext it) (fun r s1=>match r with
   | none=>R (.ok .next) s1
   | some v=>wpAny (model prog w) A (letOwnedTupleGo target it v) (fun _ s1'=>wpAny (model prog w) A (assign target env v) (fun _ s2=>
     wpAny (model prog w) A (nh ifs env) (fun ok s3=>
      if ok=true then wpAny (model prog w) A (eval elt env) (fun x s4=>
       wpAny (model prog w) A (call (.builtin "list.append") [acc,x]) (fun _ s5=>∃m,m<n/\I m s5) gh s4) gh s3
      else ∃m,m<n/\I m s3) gh s2) gh s1') gh s1) gh s)
  (n:Nat) (h:I n s):codeAny (model prog w) A (.compLoop (.ListComp elt [⟨target,iter,ifs,0⟩] scope pos) 0 it acc env) R s:=by
 refine codeAny_loop rfl I (fun n s hI=>(show wpAny _ A (Sem.onRaise (compTurn (.ListComp elt [⟨target,iter,ifs,0⟩] scope pos) 0 it acc env) (fun x=>do noteFrame x env;theTreesLotGoes x)) _ _ s from wpAny_noted ?_)) n h
 rw[compTurn_list]
 refine wpAny_bind (wpAny_standAt (wpAny_bind (bB (aZ (turn n s hI) fun r s1 h1 =>?_))))
 cases r with
 | none=>exact wpAny_pure h1
 | some v=>
  refine wpAny_bind (bB (aZ h1 fun _ s1' h1' =>?_))
  refine wpAny_bind (bB (aZ h1' fun _ s2 h2=>wpAny_bind (bB (aZ h2 fun ok s3 h3 =>?_))))
  cases ok with
  | false=>exact wpAny_pure ⟨rfl,h3⟩
  | true=>exact wpAny_bind (wpAny_bind (bB (aZ h3 fun x s4 h4=>wpAny_bind (bB (aZ h4 fun _ s5 h5=>wpAny_pure (wpAny_pure ⟨rfl,h5⟩))))))
end
theorem fZ.adopt {P:Program}{w:World}{H:Hp}{h:Heap}{a:Addr}{o:HO}(x:fZ P w H h)(hn:H a=none)(new:bq P w (upd H a o) h a o):fZ P w (upd H a o) h:=fun b u e=>by
 by_cases hb:b=a
 ·subst hb;rw[ar] at e;cases e;exact new
 ·rw[aj hb] at e
  exact(x b u e).kM (fun c v _ q=>q) (fun c q=>by rw[aj (ai q hn)];exact q) fun c xs q=>by rw[aj (ai q hn)];exact q
structure dY (X:Cx)(scope:Scope)(Nc Fc:List Str)(js:List Nat):Prop where
 kind:scope.kind = .function
 nocell:∀y∈scope.names,y.2 ≠ .cell
 names:∀y∈scope.names,y.2 = .local->scope.names.lookup y.1=some .local
 free:∀y∈scope.names,y.2 = .free->X.env.kindOf y.1=some .cell∨X.env.kindOf y.1=some .free
 frees:∀(k:Nat) (x:Str),Fc[k]? = some x->scope.names.lookup x=some .free/\∃j,js[k]? = some j/\X.N[j]? = some x
 lens:js.length=Fc.length
noncomputable def cO (σ:St)(js:List Nat):St:=js.map fun j=>(σ[j]?).join
noncomputable def fL (X:Cx)(Nc Fc:List Str)(scope:Scope)(cl:List (Str×Addr))(C:Addr)(s:Shared)(H:Hp)(fp:List Addr):Cx:=
 { X with N:=Nc++Fc,s₀:=s,H₀:=H,env:=compEnvC scope cl C X.env,outer:=X.stack,stack:=X.stack,ex:=fp,fn:=fun _=>false,pn:=[],xe:=gh }
theorem fO {env:Env}:∀{names:List (Str×NameKind)} {x:Str} {k:NameKind},(names.map fun(n,k)=>if (k==NameKind.free&&env.scope.kind == .function&&env.kindOf n==some .cell) then (n,NameKind.cell) else (n,k)).lookup x=some k ->
  names.lookup x=some k∨(k = .cell/\names.lookup x=some .free)
 | [],_,_,h=>by simp at h
 | (n,k0)::r,x,k,h=>by
  have ih := @fO env r x k
  rw[Uc] at h
  dsimp only at h
  by_cases hx:x=n
  ·subst hx
   by_cases hc:(k0==NameKind.free&&env.scope.kind == .function&&env.kindOf x==some .cell)=true
   ·rw[if_pos hc] at h
    simp -iota only [Ux,beq_self_eq_true] at h
    have hk:k0 = .free:=by
     have:=(Yh _ _).mp ((Yh _ _).mp hc).1
     simpa using this.1
    subst hk
    cases h
    exact .inr ⟨rfl,by simp only[Ux,beq_self_eq_true]⟩
   ·rw[if_neg hc] at h
    simp -iota only [Ux,beq_self_eq_true] at h ⊢
    exact .inl h
  ·have hb:(x==n)=false:=beq_eq_false_iff_ne.mpr hx
   have e:List.lookup x ((if (k0==NameKind.free&&env.scope.kind == .function&&env.kindOf n==some .cell)=true then (n,NameKind.cell) else (n,k0))::(r.map fun(n,k)=>if (k==NameKind.free&&env.scope.kind == .function&&env.kindOf n==some .cell) then (n,NameKind.cell) else (n,k)))=some k:=h
   have e2:List.lookup x (r.map fun(n,k)=>if (k==NameKind.free&&env.scope.kind == .function&&env.kindOf n==some .cell) then (n,NameKind.cell) else (n,k))=some k:=by
    by_cases hc:(k0==NameKind.free&&env.scope.kind == .function&&env.kindOf n==some .cell)=true
    ·rw[if_pos hc] at e;simp -iota only [Ux,hb] at e;exact e
    ·rw[if_neg hc] at e;simp -iota only [Ux,hb] at e;exact e
   simp -iota only [Ux,hb]
   exact ih e2
theorem dZ {env:Env}:∀{names:List (Str×NameKind)} {x:Str},names.lookup x=some .free ->
  (names.map fun(n,k)=>if (k==NameKind.free&&env.scope.kind == .function&&env.kindOf n==some .cell) then (n,NameKind.cell) else (n,k)).lookup x=some .cell ∨
  (names.map fun(n,k)=>if (k==NameKind.free&&env.scope.kind == .function&&env.kindOf n==some .cell) then (n,NameKind.cell) else (n,k)).lookup x=some .free
 | [],_,h=>by simp at h
 | (n,k0)::r,x,h=>by
  have ih := @dZ env r x
  rw[Uc]
  dsimp only
  by_cases hx:x=n
  ·subst hx
   simp -iota only [Ux,beq_self_eq_true] at h
   cases h
   by_cases hc:(NameKind.free==NameKind.free&&env.scope.kind == .function&&env.kindOf x==some .cell)=true
   ·rw[if_pos hc];left;simp only[Ux,beq_self_eq_true]
   ·rw[if_neg hc];right;simp only[Ux,beq_self_eq_true]
  ·have hb:(x==n)=false:=beq_eq_false_iff_ne.mpr hx
   simp -iota only [Ux,hb] at h
   by_cases hc:(k0==NameKind.free&&env.scope.kind == .function&&env.kindOf n==some .cell)=true
   ·rw[if_pos hc];simp -iota only [Ux,hb];exact ih h
   ·rw[if_neg hc];simp -iota only [Ux,hb];exact ih h
theorem bX:∀{l:List (Str×NameKind)} {x:Str} {k:NameKind},l.lookup x=some k->(x,k)∈l:=fun h=>PySem.mem_of_lookup h
section
variable {X:Cx}{pins:List (Addr×Obj)}{σ:St}{H:Hp}{s:Shared}{scope:Scope}{Nc Fc:List Str}{js:List Nat}{cl:List (Str×Addr)}{C D:Addr}{fp:List Addr}
theorem lE {x:Str}:(fL X Nc Fc scope cl C s H fp).env.kindOf x=(scope.names.map fun(n,k)=>if (k==NameKind.free&&X.env.scope.kind == .function&&X.env.kindOf n==some .cell) then (n,NameKind.cell) else (n,k)).lookup x:=rfl
theorem lr (I:Inv X pins σ H s)(c:dY X scope Nc Fc js)(dA:∀n c,cl.lookup n=some c->X.env.cells.lookup n=some c)(il:∀y∈scope.names,y.2 = .free->∃c,cl.lookup y.1=some c)
  (hC:s.heap.objs.size<=C) (hf:∀b∈fp,d6 X pins H b) (ho:∀b∈fp,∃o,s.heap.get? b=some o):(fL X Nc Fc scope cl C s H fp).Ok where
 mod:=I.ok.mod
 kind:=c.kind
 glob:=I.ok.glob
 blt:=I.ok.blt
 above:=hC
 inj:=fun x y a h1 h2=>I.ok.inj x y a (dA _ _ h1) (dA _ _ h2)
 has:=fun x hx=>by
  have key:scope.names.lookup x=some .free:=by
   rw[lE] at hx
   rcases hx with h|h
   ·rcases fO h with q|⟨_,q⟩
    ·exact absurd rfl (c.nocell _ (bX q))
    ·exact q
   ·rcases fO h with q|⟨q,_⟩
    ·exact q
    ·cases q
  exact il _ (bX key) rfl
 cab:=fun _ _ h=>nomatch h
 hd:=I.ok.hd
 frames:=I.ok.frames
 stk := .inl rfl
 exf:=fun b hb=>⟨fun z=>by
   obtain⟨o,e⟩:=ho b hb
   exact cn (Jk e) hC z,fun x a e z=>(hf b hb).2.2.2.2.1 x a (dA _ _ e) z⟩
 bs:=fun b o e=>I.bs b o e
 bsz:=Ju I.ok.bsz I.sz
 noex:=fun b o e hb=>by
  rcases(hf b hb).2.2.2.1 with z|z
  ·exact I.ok.noex b o e z
  ·exact absurd (Jv (Jk (I.ok.bs b o e).1) z) (Ya _)
 exfs:=fun b hb z=>by
  rcases J5.mp (I.oy b z) with q|q
  ·exact(hf b hb).2.1 q
  ·exact(hf b hb).2.2.1 q
 jF:=I.stack
 wj:=I.uh
theorem zZ (I:Inv X pins σ H s)(c:dY X scope Nc Fc js)(dA:∀n c,cl.lookup n=some c->X.env.cells.lookup n=some c)(il:∀y∈scope.names,y.2 = .free->∃c,cl.lookup y.1=some c)
  (hC:s.heap.objs.size<=C) (hD:s.heap.objs.size<=D) (Ea:D≠C) (hf:∀b∈fp,d6 X pins H b) (ho:∀b∈fp,∃o,s.heap.get? b=some o) {h1:Heap} {t1:Nat} {m:Str->Option Value} {ob:Obj}
  (hk:∀b o,s.heap.get? b=some o->h1.get? b=some o) (hm:h1.Ns C m) (KJ:h1.get? D=some ob) (MQ:∀v,ob.data ≠ .cell v) :
  Inv (fL X Nc Fc scope cl C s H fp) [(D,ob)] (Jp Nc.length none++cO σ js) H { s with heap:=h1,toks:=t1 }:=by
 refine⟨lr I c dA il hC hf ho,rfl,I.bare,Un.kept hk,⟨m,hm,fun i x v e1 e2 e3 =>?_⟩,fun x a e =>?_,I.aR.fresh hC,fun x a e=>I.freeC x a (dA x a e),fun p hp =>?_,I.aR.kept hk,?_⟩
 ·have e1:(Nc++Fc)[i]? = some x:=e1
  have e2:(Jp Nc.length none++cO σ js)[i]? = some (some v):=e2
  by_cases hi:i<Nc.length
  ·rw[Ul (by simpa using hi),Yu] at e2
   split at e2<;>cases e2
  ·rw[Ud (by omega)] at e1
   rw[Ud (by rw[Uk];omega),Uk] at e2
   refine ae.el (c.frees _ _ e1) _ ?_
   rintro An j hj hN
   have hv: σ[j]? = some (some v):=by
    unfold cO at e2
    rw[Jl,hj] at e2
    have e2:some ((σ[j]?).join)=some (some v):=e2
    cases q: σ[j]? with
    | none=>rw[q] at e2;cases e2
    | some z=>rw[q] at e2;cases e2;rfl
   have kx:=c.free _ (bX An) rfl
   refine ae.el (I.loc) _ ?_
   rintro m0 OA hl0
   have Kr:GN X.env.scope x:=by
    rcases kx with k|k
    ·exact .inr (.inl k)
    ·exact .inr (.inr k)
   refine ae.el (hl0 j x v hN hv Kr) _ ?_
   rintro u ru lk
   refine⟨u,ru,.inr ⟨?_,?_⟩⟩
   ·rw[lE];exact dZ An
   ·obtain⟨a,ha⟩:=il _ (bX An) rfl
    refine⟨a,ha,?_⟩
    rcases lk with ⟨k,_⟩|⟨_,a',ha',hcell⟩
    ·rcases kx with q|q<;>(rw[k] at q;cases q)
    ·have e:=dA _ _ ha
     dsimp only at e
     rw[ha'] at e;cases e
     exact hcell.keeps hk
 ·obtain⟨v,z⟩:=I.cell x a (dA x a e)
  exact⟨v,z.keeps hk⟩
 ·have hp:p=(D,ob):=by
   have:p∈[(D,ob)]:=hp
   simpa using this
  subst hp
  refine⟨KJ,I.aR.fresh hD,Ea,fun z =>?_,MQ⟩
  have z:D∈m5 X.stack:=z
  rcases J5.mp (I.oy D z) with q|q
  ·exact lT I.lt hD q
  ·exact I.EF hD q
 ·show(Jp Nc.length none++cO σ js).length=(Nc++Fc).length
  unfold cO
  rw[Je,Je,Uk,Ja,c.lens]
end
def BV (X:Cx)(ifs:List Expr)(t:TT):Prop:=
 ∀ ⦃pins:List (Addr×Obj)⦄ (s:Shared) (σ:St) (H:Hp) (Q:Bool->Hp->Prop),Inv X pins σ H s->t σ H Q->wpAny (model X.prog X.w) X.A (nh ifs X.env) (TP X pins σ Q) X.xe s
def fP:TT:=fun _ H Q=>Q true H
theorem aX {X:Cx}:BV X [] fP:=fun _ _ _ H _ I h=>wpAny_tests_nil ⟨H,I,h⟩
theorem dI {X:Cx}{c:Expr}{t:TT}(h:PT X c t):BV X [c] t:=fun pins s σ H Q I hw=>wpAny_tests_one (h s σ H Q I hw)
def tT (J:It)(n:Nat)(js:List Nat)(g:TG)(tc:TT)(te:TE)(σ:St)(H1:Hp)(fin:List V->Hp->Prop):Prop:=
 ∃W:Nat->Nat->List V->Hp->Prop,(∃m,W 0 m [] H1)/\∀i m ys H,W i m ys H ->
  (J.stop i H/\fin ys H) ∨
  (J.go i H/\ys.length<sizeLine/\∀x H',J.yld i H x H'->g x (Jp n none++cO σ js) H' fun σ2 H2=>tc σ2 H2 fun b H3=>
   if b=true then te σ2 H3 fun y H4=>∃m',m'<m/\W (i+1) m' (ys++[y]) H4 else ∃m',m'<m/\W (i+1) m' ys H3)
def eO (wi:TI)(n:Nat)(js:List Nat)(g:TG)(tc:TT)(te:TE):TE:=fun σ H Q=>wi σ H fun J H1=>
 tT J n js g tc te σ H1 fun ys H2=>∀p,H2 p=none->Q (.ref p) (upd H2 p (.lst ys))
def Gk (n:Nat)(g:TG):Prop:=∀x σ H Q,g x σ H Q->g x σ H fun σ' H'=>Q σ' H'/\(∀j,n<=j -> σ'[j]? = σ[j]?) /\ σ'.length = σ.length
def Ig (n:Nat)(g:u5):Prop:=∀x σ H Q,g x σ H Q->g x σ H fun σ' H'=>Q σ' H'/\(∀j,n<=j -> σ'[j]? = σ[j]?) /\ σ'.length = σ.length
theorem aA {n i:Nat}(h:i<n:=by decide):Gk n (gU i):=fun x σ H Q q=>⟨q,fun j hj=>List.getElem?_set_ne (by omega),List.length_set⟩
theorem dH {n:Nat}:Ig n DW:=fun x σ H Q q=>⟨q.1,q.2,fun _ _=>rfl,rfl⟩
theorem aP {n:Nat}{t:TG}{u:u5}(h1:Gk n t)(h2:Ig n u)(mt:∀x σ H Q Q',(∀a b,Q a b->Q' a b)->t x σ H Q->t x σ H Q')(mu:∀x σ H Q Q',(∀a b,Q a b->Q' a b)->u x σ H Q->u x σ H Q'):Ig n (wL t u):=fun x σ H Q q=>by
 obtain⟨v,r,e,q⟩:=q
 refine⟨v,r,e,mt _ _ _ _ _ (fun σ1 H1 z =>?_) (h1 _ _ _ _ q)⟩
 refine ae.el (z) _ ?_
 rintro z k1 l1
 exact mu _ _ _ _ _ (fun σ2 H2 ⟨z2,k2,l2⟩=>⟨z2,fun j hj=>(k2 j hj).trans (k1 j hj),l2.trans l1⟩) (h2 _ _ _ _ z)
theorem fD {K:Jc}{n m:Nat}{t:u5}(h:Ig n t):Gk n (DR K m t):=fun x σ H Q q=>by
 obtain⟨a,xs,e,h1,h2,q⟩:=q
 exact⟨a,xs,e,h1,h2,h _ _ _ _ q⟩
theorem mR {X:Cx}{elt tg iter:Expr}{ifs:List Expr}{scope:Scope}{pos:Pos}{Nc Fc:List Str}{js:List Nat}{wi:TI}{g:TG}{tc:TT}{te:TE}{use:Option (Value->Sem Unit)}{QV:Value->Shared->Prop}
  (cL:X.calm=true) (c:dY X scope Nc Fc js) (hi:PI X tg iter wi)
  (hg:∀cl C s H fp,PG (fL X Nc Fc scope cl C s H fp) tg g) (xb:∀cl C s H fp,BV (fL X Nc Fc scope cl C s H fp) ifs tc) (Fy:∀cl C s H fp,PE (fL X Nc Fc scope cl C s H fp) elt te) (gk:Gk Nc.length g)
  {pins:List (Addr×Obj)} {s:Shared} {σ:St} {H:Hp} {fin:List V->Hp->Prop} (I:Inv X pins σ H s)
  (h:wi σ H fun J H1=>tT J Nc.length js g tc te σ H1 fin)
  (behind:∀(C D:Addr) (m:Str->Option Value) (ys:List V) (H2:Hp) (s2:Shared),Inv X pins σ (upd H2 D (.lst ys)) s2->s2.heap.Ns C m->d6 X pins (upd H2 D (.lst ys)) C->H2 D=none->fin ys H2->compPost (model X.prog X.w) X.A X.xe use QV (.ref D) C (.ok .next) s2)
  (hs:∀x,foldedSetIterable iter X.env x=pure x) :
  wpAny (model X.prog X.w) X.A (comprehension (.ListComp elt [⟨tg,iter,ifs,0⟩] scope pos) scope X.env (firstIterPos [⟨tg,iter,ifs,0⟩] pos) (newList []) false (eval iter X.env) use) QV X.xe s:=by
 obtain⟨cl,hclos,dA,il⟩:=iE (scope:=scope) (env:=X.env) fun y hy hf=>I.ok.has y.1 (c.free y hy hf)
 refine wpAny_comprehension_free (use:=use) rfl hs hclos c.kind c.names ?_
 refine aZ (hi s σ H _ I h) fun v s1 h1=>aZ h1 fun Ec s2 h2 =>?_
 obtain⟨it,fp,tn,J,H2,e,I2,T,bQ,f2,W,⟨m0,w0⟩,turn⟩:=h2
 subst e
 refine wpAny_newObj_type (wpAny_newFunctionEnv c.nocell (by intro y hy;simp at hy) (fun h1 hns1 hsb1 =>?_) c.kind)
 dsimp only at hns1 hsb1 ⊢
 generalize hG:s2.heap.push { cls := .type "list",dict:=none,data := .seq ([]:List Value).toArray } = G at hns1 hsb1 ⊢
 have hC:G.objs.size=s2.heap.objs.size+1:=by rw[<-hG,Yg]
 have Ea:s2.heap.objs.size≠G.objs.size:=by rw[hC];exact Jz (Nat.lt_succ_self _)
 have hle:s2.heap.objs.size<=G.objs.size:=by rw[hC];exact Yv _
 have old:∀b o,s2.heap.get? b=some o->h1.get? b=some o:=fun b o e=>
  hsb1.extBut b o (cn (Jk e) hle) (Jb _ (hG▸Jb _ e))
 have nR:h1.PlainList s2.heap.objs.size #[]:=⟨_,hsb1.extBut _ _ Ea (Jb _ (hG▸Jo _ rfl))⟩
 obtain⟨n0,nR⟩:=nR
 have fo:∀b∈fp,∃o,s2.heap.get? b=some o:=fun b hb=>let ⟨o,e,_⟩:=T.obj 0 _ bQ b hb; ⟨o,e⟩
 have lV:∀b∈fp,b<s2.heap.objs.size:=fun b hb=>let ⟨o,e⟩:=fo b hb;Jk e
 let Xc:Cx:=fL X Nc Fc scope cl G.objs.size s2 H2 fp
 let D:Addr:=s2.heap.objs.size
 have gb:∀{pl:List (Addr×Obj)} {H':Hp},(∀p∈pl,p.1=D)->(∀b∈fp,H' b=none)->∀b∈fp,d6 Xc pl H' b:=fun{pl H'} hp hn b hb=>by
  refine⟨hn b hb,?_,?_,.inl hb,fun x a e =>?_,fun p hq =>?_⟩
  ·exact cn (lV b hb) hle
  ·exact(lr I2 c dA il hle f2 fo).exfs b hb
  ·exact(f2 b hb).2.2.2.2.1 x a (dA _ _ e)
  ·have q:p∈([]:List (Addr×Obj))++pl:=hq
   rw[hp p (by simpa using q)]
   exact lT (lV b hb) (Jf _)
 have loop:∀t1,codeAny (model X.prog X.w) X.A (.compLoop (.ListComp elt [⟨tg,iter,ifs,0⟩] scope pos) 0 (.ref it) (.ref s2.heap.objs.size) (compEnvC scope cl G.objs.size X.env))
   (compPost (model X.prog X.w) X.A X.xe use QV (.ref s2.heap.objs.size) G.objs.size) { s2 with heap:=h1,toks:=t1 }:=by
  intro t1
  refine sL (fun n s'=>∃i ys H' az k,Inv Xc [(D,{ cls := .type "list",data := .seq az k })] (Jp Nc.length none++cO σ js) H' s'/\Vals ys az.toList/\ys.length<=sizeLine/\tn i s'.heap/\(∀b∈fp,H' b=none)/\W i n ys H') ?_ m0
   ⟨0,[],H2,#[],n0,zZ I2 c dA il hle (Jf _) Ea f2 fo old hns1 nR (fun _ z=>nomatch z),.nil,Us _,T.keep _ _ _ bQ (fun b hb o e=>old b o e),fun b hb=>(f2 b hb).1,w0⟩
  intro n s3
  refine ae.go ?_
  rintro i ys H3 az k I3 rv hz cS fr3 w3
  have w5:∀p∈[(D,({ cls := .type "list",data := .seq az k }:Obj))],p.1=D:=fun p hp=>congrArg Prod.fst (Jd.mp hp)
  rcases turn i n ys H3 w3 with ⟨stop,qn⟩|⟨go,bN,step⟩
  ·refine aZ (T.done Xc rfl rfl rfl cL i _ s3 _ H3 gh I3 (gb w5 fr3) cS stop) fun r s4 hz_ =>?_
   refine ae.el hz_ _ ?_
   clear hz_
   rintro hr I4
   subst hr
   show compPost _ _ _ _ _ _ _ _ _
   obtain⟨hDo,zu,hDne,hDfs,_⟩:=I4.pin (D,_) (Jj _ Js)
   have KS:D≠G.objs.size:=Ea
   refine ae.el (I4.loc) _ ?_
   rintro mC hmC _
   have E6:H3 G.objs.size=none:=I4.free
   have Ql:∀b o,s2.heap.get? b=some o->b≠D:=fun b o e=>Jz (Jk e)
   have u:Un (m5 X.stack) fp H2 H3 s2.heap s4.heap:=I4.base
   have Dn:H2 D=none:=I2.aR.fresh (Jf _)
   have u':Un (m5 X.stack) fp H2 (upd H3 D (.lst ys)) s2.heap s4.heap:=
    ⟨u.keep,u.slot,fun b o e n hx=>by rw[aj (Ql b o e)];exact u.free b o e n hx,u.there,
      fun b xs e=>by rw[aj (ai e Dn)];exact u.gC b xs e,fun b o xs e=>by rw[aj (ai e Dn)];exact u.fB b o xs e,
      fun b ps e=>by rw[aj (ai e Dn)];exact u.gM b ps e⟩
   have zX:fZ X.prog X.w (upd H3 D (.lst ys)) s4.heap:=I4.aR.adopt zu ⟨hz,az.toList,k,rv,by simpa using hDo⟩
   have mw:∀b∈fp,(b∈X.ex∨X.s₀.heap.objs.size<=b)/\b≠X.env.locals/\(∀x c,X.env.cells.lookup x=some c->c≠b)/\∀p∈X.pn++pins,p.1≠b:=fun b hb=>
    ⟨(f2 b hb).2.2.2.1,(f2 b hb).2.1,(f2 b hb).2.2.2.2.1,(f2 b hb).2.2.2.2.2⟩
   have G4:s4.os=s2.os:=I4.os
   have J4:Inv X pins σ (upd H3 D (.lst ys)) s4:=I2.tI (H':=upd H3 D (.lst ys)) G4 u' zX I4.bare mw
   refine behind G.objs.size D mC ys H3 s4 J4 hmC (I2.jd hle ?_) zu qn
   rw[aj (Ne.symm KS)]
   exact E6
  ·refine aZ (T.item Xc rfl rfl rfl cL i _ s3 _ H3 gh I3 (gb w5 fr3) cS go) fun r s4 hz_ =>?_
   refine ae.el hz_ _ ?_
   clear hz_
   rintro u hr h4
   subst hr
   show wpAny _ _ (letOwnedTupleGo tg (.ref it) u) _ _ _
   refine aZ h4 fun _ s5 hz_ =>?_
   refine ae.el hz_ _ ?_
   clear hz_
   rintro x H5 I5 r5 y5 dz fr5
   have zj:=I5.pinned (gb w5 fr5) (T.obj _ _ dz)
   refine aZ (hg cl G.objs.size s2 H2 fp s5 _ H5 x u _ zj r5 (gk _ _ _ _ (step x H5 y5))) fun _ s6 hz_ =>?_
   refine ae.el hz_ _ ?_
   clear hz_
   rintro σ6 H6 I6 q6 kσ kl
   refine aZ (xb cl G.objs.size s2 H2 fp s6 σ6 H6 _ I6 q6) fun b s7 hz_ =>?_
   refine ae.el hz_ _ ?_
   clear hz_
   rintro H7 I7 q7
   have later:∀{σ':St} {H':Hp} {s':Shared},Inv Xc ([(D,({ cls := .type "list",data := .seq az k }:Obj))]++eK fp s5.heap) σ' H' s'->tn (i+1) s'.heap/\∀b∈fp,H' b=none:=fun{σ' H' s'} Iz=>by
    refine⟨T.keep _ _ _ dz fun b hb o e=>(Iz.pin (b,o) (Jj _ (Jj _ (bP hb e)))).1,fun b hb =>?_⟩
    refine ae.el (T.obj _ _ dz b hb) _ ?_
    rintro o e d
    exact(Iz.pin (b,o) (Jj _ (Jj _ (bP hb e)))).2.1
   have back:∀{pl:List (Addr×Obj)} {H':Hp} {s':Shared},Inv Xc pl σ6 H' s'->Inv Xc pl (Jp Nc.length none++cO σ js) H' s':=fun{pl H' s'} Iz=>by
    refine Iz.weak (by rw[<-kl]) fun j v hj =>?_
    by_cases hn:j<Nc.length
    ·rw[Ul (by simpa using hn),Yu] at hj
     split at hj<;>cases hj
    ·rw[kσ j (by omega)];exact hj
   cases b with
   | false=>
    rw[if_neg Jm] at q7 ⊢
    refine ae.el (q7) _ ?_
    rintro m' uN w7
    obtain⟨l1,l2⟩:=later I7
    exact⟨m',uN,i+1,ys,H7,az,k,back I7.dJ,rv,hz,l1,l2,w7⟩
   | true=>
    rw[if_pos rfl] at q7 ⊢
    refine aZ (Fy cl G.objs.size s2 H2 fp s7 σ6 H7 _ I7 q7) fun yv s8 hz_ =>?_
    refine ae.el hz_ _ ?_
    clear hz_
    rintro y H8 I8 r8 q8
    refine ae.el (q8) _ ?_
    rintro m' uN w8
    obtain⟨hDo,zu,hDne,hDfs,_⟩:=I8.pin (D,_) (Jj _ (Jx _ Js))
    obtain⟨l1,l2⟩:=later I8
    have hits:az.size=ys.length:=by
     have e1:=rv.length
     simp -iota only [Jw] at e1
     omega
    refine wpAny_list_append_plain (hsz:=by omega) ⟨k,hDo⟩ fun h9 hl9 hs9 =>?_
    obtain⟨k9,hD9⟩:=hl9
    have Mo:∀p∈eK fp s5.heap,p.1≠D:=fun p hp=>by
     obtain⟨hb,_⟩:=mx hp
     exact cn (lV _ hb) (Jf _)
    have PM:Inv Xc (eK fp s5.heap) σ6 H8 s8:=I8.j4 fun p hp=>I8.pin p (Jj _ (Jj _ hp))
    have I9:Inv Xc (eK fp s5.heap) σ6 H8 { s8 with heap:=h9,toks:=s8.toks }:=PM.turned (it:=D) (fun b o hb e=>hs9.extBut b o hb e) zu Ea (.inr (Jf _))
     (fun x a e z=>by
      obtain⟨v,q⟩:=I2.cell x a (dA _ _ e)
      exact cn q.lt (Jf _) z) (fun p hp=>Mo p (by
       have hp:p∈([]:List (Addr×Obj))++eK fp s5.heap:=hp
       simpa using hp))
    obtain⟨E5,fr9⟩:tn (i+1) h9/\∀b∈fp,H8 b=none:=by
     refine⟨T.keep _ _ _ l1 fun b hb o e=>hs9.extBut b o ?_ e,l2⟩
     exact cn (lV _ hb) (Jf _)
    refine⟨m',uN,i+1,ys++[y],H8,az.push yv,k9,back (I9.j4 fun p hp =>?_),?_,?_,E5,fr9,w8⟩
    ·cases Jd.mp hp
     exact⟨hD9,zu,hDne,hDfs,fun _ z=>nomatch z⟩
    ·rw[Yl]
     exact rv.append (.cons r8 .nil)
    ·rw[Je,List.length_singleton];omega
 exact codeAny_compStart_list (loop _) (T.self _ 0 _ _ _ (T.keep _ _ _ bQ fun b hb o e=>old b o e) (loop _))
theorem bg {X:Cx}{elt tg iter:Expr}{ifs:List Expr}{scope:Scope}{pos:Pos}{Nc Fc:List Str}{js:List Nat}{wi:TI}{g:TG}{tc:TT}{te:TE}
  (cL:X.calm=true) (c:dY X scope Nc Fc js) (hi:PI X tg iter wi) (gk:Gk Nc.length g)
  (hg:∀cl C s H fp,PG (fL X Nc Fc scope cl C s H fp) tg g) (xb:∀cl C s H fp,BV (fL X Nc Fc scope cl C s H fp) ifs tc) (Fy:∀cl C s H fp,PE (fL X Nc Fc scope cl C s H fp) elt te)
  (hs:∀x,foldedSetIterable iter X.env x=pure x:=by intro _;rfl) :
  PE X (.ListComp elt [⟨tg,iter,ifs,0⟩] scope pos) (eO wi Nc.length js g tc te):=by
 intro pins s σ H Q I h
 rw[eval_ListComp]
 refine mR (use:=none) cL c hi hg xb Fy gk I h (fun C D m ys H2 s2 I2 hm hC hD q =>?_) hs
 refine⟨m,hm,fun h' hs' =>?_⟩
 refine⟨.ref D,_,I2.turned (it:=C) (t':=s2.toks) (fun b o hb e=>hs'.extBut b o hb e) hC.1 (hC.2.1) hC.2.2.2.1 hC.2.2.2.2.1 hC.2.2.2.2.2,rfl,q D hD⟩
theorem bz {X:Cx}{i:Nat}{y:Str}{elt tg iter:Expr}{ifs:List Expr}{scope:Scope}{pos pos' py:Pos}{Nc Fc:List Str}{js:List Nat}{wi:TI}{g:TG}{tc:TT}{te:TE}(hN:X.N.Nodup)(hy:X.N[i]? = some y)(hl:Loc X.env.scope y)
  (cL:X.calm=true) (c:dY X scope Nc Fc js) (hi:PI X tg iter wi) (gk:Gk Nc.length g)
  (hg:∀cl C s H fp,PG (fL X Nc Fc scope cl C s H fp) tg g) (xb:∀cl C s H fp,BV (fL X Nc Fc scope cl C s H fp) ifs tc) (Fy:∀cl C s H fp,PE (fL X Nc Fc scope cl C s H fp) elt te)
  (K4:swapsWith (.ListComp elt [⟨tg,iter,ifs,0⟩] scope pos) (some (.Name y py)) pos'.line X.env=pure true:=by rfl)
  (hs:∀x,foldedSetIterable iter X.env x=pure x:=by intro _;rfl)
  (hf:X.fn y=true∨X.env.scope.names.lookup y=some .local:=by first|exact .inl rfl|exact .inr rfl|assumption) :
  PS X (.Assign [.Name y py] (.ListComp elt [⟨tg,iter,ifs,0⟩] scope pos) pos') (uF (eO wi Nc.length js g tc te) (gU i)):=by
 intro pins s σ H E I h
 rw[exec_Assign_Name_used _ _ _ _ K4]
 refine wpAny_bind (wpAny_standAt (wpAny_bind ?_))
 show wpAny _ X.A (do let _ <-comprehension (.ListComp elt [⟨tg,iter,ifs,0⟩] scope pos) scope X.env _ (newList []) false (eval iter X.env) (some (assign (.Name y py) X.env))) _ _ s
 refine wpAny_bind (aZ (mR (use:=some (assign (.Name y py) X.env)) (QV:=fun _ s'=>SP X pins E .next s') cL c hi hg xb Fy gk I h (fun C D m ys H2 s2 I2 hm hC hD q =>?_) hs) fun _ s' hq=>wpAny_pure (wpAny_pure hq))
 show wpAny _ _ (assign (.Name y py) X.env (.ref D)) _ _ s2
 refine wpAny_assign_Name (jE I2 hN hy hl (v := .ref D) rfl (fun s3 I3 ⟨a,v5,ha⟩=>?_) hf)
 have hZ:C≠a:=by
  rcases ha with e|e
  ·rw[e];exact hC.2.1
  ·exact fun z=>hC.2.2.2.2.1 _ _ e z.symm
 refine⟨m,hm.at' fun o e=>v5.extBut _ o hZ e,fun h' hs' =>?_⟩
 exact⟨_,_,I3.turned (it:=C) (t':=s3.toks) (fun b o hb e=>hs'.extBut b o hb e) hC.1 hC.2.1 hC.2.2.2.1 hC.2.2.2.2.1 hC.2.2.2.2.2,q D hD⟩
section
variable {X:Cx}{pins:List (Addr×Obj)}{σ:St}{H:Hp}{s:Shared}{p:Addr}{ys:List V}
theorem jL {A:Around}(hh:A.handled=none)(I:Inv X pins σ H s)(hq:aD X.K H p ys){R:Value->Shared->Prop}{E:Value->Shared->Prop}
  (h:∀(az:List Value) (it:Addr) (s2:Shared),Vals ys az->az.length<=sizeLine ->
   Walks X.prog X.w A it [it,p] [it] az.toArray.size (fun i v=>az.toArray[i]? = some v) (fun i h=>h.IsListIter it p i/\h.IsList p az.toArray)->(s2.heap.IsListIter it p 0/\s2.heap.IsList p az.toArray)->(∀b∈[it,p],b<s2.heap.objs.size) ->
   (∀h' tk,(∀b o,b∉[it]->s2.heap.get? b=some o->h'.get? b=some o)->Inv X pins σ H { s2 with heap:=h',toks:=tk })->R (.ref it) s2) :
  wpAny (model X.prog X.w) A (pyIter (.ref p)) R E s:=by
 obtain⟨az,rv,pl,hz⟩:=I.list hq
 have hl:=pl.isList
 have hp:p<s.heap.objs.size:=by obtain⟨o,e,_⟩:=hl;exact Jk e
 refine wpAny_pyIter_list hl ?_
 refine h az s.heap.objs.size _ rv (by have:=rv.length;omega) (Walks.list hh _ p (Jz hp) az.toArray) ⟨⟨_,Jo _ rfl,rfl,rfl⟩,hl.push _⟩ (fun b hb =>?_) fun h' tk hk =>?_
 ·show b<(s.heap.push _).objs.size
  rw[Yg]
  rcases J5.mp hb with rfl|hb
  ·exact Nat.lt_succ_self _
  ·rw[Jd.mp hb];exact Wl hp
 ·exact I.kept (t':=tk) fun b o e=>hk b o (fun z=>cn (Jk e) (Jf _) (Jd.mp z)) (Jb _ e)
theorem ik {ys:List V}{az:List Value}(r:Vals ys az){i:Nat}{v:Value}(e:az.toArray[i]? = some v):∃y,ys[i]? = some y/\RelV y v:=by
 have e':az[i]? = some v:=by simpa using e
 have hi:i<az.length:=(Jy.mp e').1
 have hl:=r.length
 obtain⟨u,h1,h2⟩:=r.get (i:=i) (x:=ys[i]'(by omega)) (by simp)
 rw[e'] at h1;cases h1
 exact⟨_,by simp,h2⟩
theorem range_all (bs:List Bool):(We bs.length).all (fun i=>bs.getD i false)=bs.all id:=by
 induction bs with
 | nil=>rfl
 | cons b r ih=>
  rw[Jt,List.range_succ_eq_map,List.all_cons,List.all_map,List.all_cons,<-ih]
  rfl
theorem xE {A:Around}{bs:List Bool}{az:List Value}(r:Vals (bs.map V.bl) az):TruthOf X.prog X.w A (fun i v=>az.toArray[i]? = some v) (fun i=>bs.getD i false):=by
 intro i v s Q E e hQ
 obtain⟨y,h1,h2⟩:=ik r e
 rw[Jl] at h1
 cases q:bs[i]? with
 | none=>rw[q] at h1;cases h1
 | some b=>
  rw[q] at h1;cases h1
  cases h2
  have:bs.getD i false=b:=by simp[List.getD,q]
  have hQ:Q (bs.getD i false) s:=hQ
  rw[this] at hQ
  exact wpAny_pure hQ
theorem pX (hc:X.calm=true):bU X (.builtin "all") (fun xs H Q=>∃(p:Addr) (bs:List Bool),xs=[.ref p]/\aD X.K H p (bs.map V.bl)/\Q (.bl (bs.all id)) H):=by
 intro pins s σ H xs us Q I r h
 obtain⟨p,bs,rfl,hq,q⟩:=h
 obtain⟨u,rfl,ru⟩:=vals1 r
 cases ru
 refine call_all_walk (jL (A:=X.A.in1) (I.ok.hd hc) I hq fun az it s2 rv hz W st bN hI =>?_)
 refine⟨it,_,_,_,_,_,fun i=>bs.getD i false,rfl,W,st,xE rv,fun h' tk hk =>?_⟩
 have hl:az.toArray.size=bs.length:=by have:=rv.length;simp at this ⊢;omega
 rw[hl,range_all]
 exact⟨.bl _,H,hI h' tk hk,rfl,q⟩
theorem int_at {ns:List Int}{az:List Value}(r:Vals (ns.map V.int) az){i:Nat}{v:Value}(e:az.toArray[i]? = some v):∃n t,ns[i]? = some n/\v = .int n t:=by
 obtain⟨y,h1,h2⟩:=ik r e
 rw[Jl] at h1
 cases q:ns[i]? with
 | none=>rw[q] at h1;cases h1
 | some b=>
  rw[q] at h1;cases h1
  obtain⟨t,rfl⟩:=h2
  exact⟨b,t,rfl,rfl⟩
theorem ma (hc:X.calm=true):bU X (.builtin "max") (fun xs H Q=>∃(p:Addr) (ns:List Int),xs=[.ref p]/\aD X.K H p (ns.map V.int)/\ns≠[]/\∀M,M∈ns->(∀a∈ns,a<=M)->Q (.int M) H):=by
 intro pins s σ H xs us Q I r h
 obtain⟨p,ns,rfl,hq,hZ,q⟩:=h
 obtain⟨u,rfl,ru⟩:=vals1 r
 cases ru
 have OA:0<ns.length:=Uu.mpr hZ
 refine call_max_walk (jL (A:=X.A.in1) (I.ok.hd hc) I hq fun az it s2 rv hz W st bN hI =>?_)
 have hl:az.toArray.size=ns.length:=by have:=rv.length;simp at this ⊢;omega
 refine⟨it,_,_,_,_,_,fun i j=>decide (ns.getD i 0>ns.getD j 0),rfl,W,st,bN,by omega,?_,fun v h' tk e hk =>?_⟩
 ·refine CmpOf.ints_gt (fun i=>ns.getD i 0) fun{i v} e =>?_
  obtain⟨n,t,h1,rfl⟩:=int_at rv e
  exact⟨t,by simp[List.getD,h1]⟩
 ·obtain⟨n,t,h1,rfl⟩:=int_at rv e
  obtain⟨b1,b2⟩:=argBest_gt (fun i=>ns.getD i 0) (az.toArray.size-1)
  refine⟨.int n,H,hI h' tk hk,⟨_,rfl⟩,q n (Y4 h1) fun a ha =>?_⟩
  obtain⟨j,hj⟩:=List.getElem?_of_mem ha
  have Ke:j<ns.length:=(Jy.mp hj).1
  have z:=b2 j (by omega)
  have e1:ns.getD j 0=a:=by simp[List.getD,hj]
  have e2:ns.getD (argBest (fun i j=>decide (ns.getD i 0>ns.getD j 0)) (az.toArray.size-1)) 0=n:=by rw[Yx,h1];rfl
  rw[<-e1,<-e2]
  exact z
theorem B4 (K:Jc)(hc:X.calm=true)(hK:X.K=K:=by rfl):bU X (.builtin "max") (fun xs H Q=>∃(p:Addr) (ns:List Int),xs=[.ref p]/\aD K H p (ns.map V.int)/\ns≠[]/\∀M,M∈ns->(∀a∈ns,a<=M)->Q (.int M) H):=by subst hK;exact ma hc
theorem rD (K:Jc)(hc:X.calm=true)(hK:X.K=K:=by rfl):bU X (.builtin "all") (fun xs H Q=>∃(p:Addr) (bs:List Bool),xs=[.ref p]/\aD K H p (bs.map V.bl)/\Q (.bl (bs.all id)) H):=by subst hK;exact pX hc
theorem ir:B1 X "str.startswith" (fun x vs H Q=>∃a b,x = .str a/\vs=[.str b]/\Q (.bl (Txt.startswith a b)) H):=by
 intro pins s σ H x vs v us Q I rx rv h
 obtain⟨a,b,rfl,rfl,q⟩:=h
 obtain⟨t,rfl⟩:=rx
 obtain⟨u,rfl,t',rfl⟩:=rv.one
 exact SC.startswith ⟨.bl _,H,I,rfl,q⟩
theorem vh:B1 X "str.strip" (fun x vs H Q=>∃a b,x = .str a/\vs=[.str b]/\a.length<=sizeLine/\Q (.str (Txt.stripChars a b)) H):=by
 intro pins s σ H x vs v us Q I rx rv h
 obtain⟨a,b,rfl,rfl,hz,q⟩:=h
 obtain⟨t,rfl⟩:=rx
 obtain⟨u,rfl,t',rfl⟩:=rv.one
 exact SC.stripChars (fun t' k=>⟨.str _,H,I.tok _,⟨_,rfl⟩,q⟩) hz
theorem wM:∀{xs:List Str} {az:List Value},Vals (xs.map V.str) az->StrsAre az xs:=by
 intro xs az r
 induction xs generalizing az with
 | nil=>cases r;exact StrsAre.nil
 | cons x xs ih=>
  cases r with
  | cons r1 r2=>
   obtain⟨t,rfl⟩:=r1
   exact StrsAre.cons x t (ih r2)
theorem AL:B1 X "str.join" (fun x vs H Q=>∃(sep:Str) (p:Addr) (xs:List Str),x = .str sep/\vs=[.ref p]/\aD X.K H p (xs.map V.str)/\(xs.map (·.length)).sum+xs.length*sep.length<=16777216/\Q (.str (Txt.join sep xs)) H):=by
 intro pins s σ H x vs v us Q I rx rv h
 obtain⟨sep,p,xs,rfl,rfl,hq,hz,q⟩:=h
 obtain⟨t,rfl⟩:=rx
 obtain⟨u,rfl,ru⟩:=rv.one
 cases ru
 obtain⟨az,r',pl,_⟩:=I.list hq
 exact join_list pl.isList (wM r') hz fun t' k=>⟨.str _,H,I.tok _,⟨_,rfl⟩,q⟩
end
mutual
def Den (K:Jc)(H:Hp):PyData->V->Prop
 | .none,v=>v = .non
 | .bool b,v=>v = .bl b
 | .int i,v=>v = .int i
 | .str x,v=>v = .str x
 | .list ds,v=>bO fun a vs=>v = .ref a/\aD K H a vs/\aO K H ds vs
 | .tuple ds,v=>bO fun a vs=>v = .ref a/\fw K H a vs/\aO K H ds vs
 | .dict _,_=>False
def aO (K:Jc)(H:Hp):List PyData->List V->Prop
 | [],vs=>vs=[]
 | d::ds,vs=>bO fun v r=>vs=v::r/\Den K H d v/\aO K H ds r
end
theorem au.i7 {K:Jc}{H H':Hp}{a:Addr}{xs:List V}(e:au H H')(h:fw K H a xs):fw K H' a xs:=by
 rcases h with (h|⟨o,h⟩)|h
 ·exact .inl (.inl (e _ _ h))
 ·exact .inl (.inr ⟨o,e _ _ h⟩)
 ·exact .inr h
mutual
theorem Den.same {K:Jc}{H H':Hp}(e:au H H'):∀{d:PyData} {v:V},Den K H d v->Den K H' d v
 | .none,_,h=>by unfold Den at h ⊢;exact h
 | .bool _,_,h=>by unfold Den at h ⊢;exact h
 | .int _,_,h=>by unfold Den at h ⊢;exact h
 | .str _,_,h=>by unfold Den at h ⊢;exact h
 | .list ds,_,h=>by
  unfold Den at h ⊢
  obtain⟨a,vs,h1,h2,h3⟩:=h
  exact⟨a,vs,h1,e.seq h2,aO.same e h3⟩
 | .tuple ds,_,h=>by
  unfold Den at h ⊢
  obtain⟨a,vs,h1,h2,h3⟩:=h
  exact⟨a,vs,h1,e.i7 h2,aO.same e h3⟩
 | .dict _,_,h=>by unfold Den at h;exact h.elim
theorem aO.same {K:Jc}{H H':Hp}(e:au H H'):∀{ds:List PyData} {vs:List V},aO K H ds vs->aO K H' ds vs
 | [],_,h=>by unfold aO at h ⊢;exact h
 | d::ds,_,h=>by
  unfold aO at h ⊢
  obtain⟨v,r,h1,h2,h3⟩:=h
  exact⟨v,r,h1,Den.same e h2,aO.same e h3⟩
end
mutual
theorem Den.reads {X:Cx}{pins:List (Addr×Obj)}{σ:St}{H:Hp}{s:Shared}(I:Inv X pins σ H s):∀{d:PyData} {v:V} {u:Value},Den X.K H d v->RelV v u->∃as,Reads s.heap u d as
 | .none,_,_,h,r=>by unfold Den at h;subst h;cases r;exact⟨_,.none⟩
 | .bool _,_,_,h,r=>by unfold Den at h;subst h;cases r;exact⟨_,.bool _⟩
 | .int _,_,_,h,r=>by unfold Den at h;subst h;obtain⟨t,rfl⟩:=r;exact⟨_,.int _ _⟩
 | .str _,_,_,h,r=>by unfold Den at h;subst h;obtain⟨t,rfl⟩:=r;exact⟨_,.str _ _⟩
 | .list ds,_,_,h,r=>by
  unfold Den at h
  obtain⟨a,vs,rfl,h2,h3⟩:=h
  cases r
  obtain⟨az,rv,⟨o,n,e1,e2,_,e4⟩,_⟩:=I.list h2
  obtain⟨as,q⟩:=aO.reads I h3 rv
  exact⟨_,.list e1 e2 e4 (by simpa using q)⟩
 | .tuple ds,_,_,h,r=>by
  unfold Den at h
  obtain⟨a,vs,rfl,h2,h3⟩:=h
  cases r
  obtain⟨az,rv,⟨o,e1,e2,n,e4⟩,_⟩:=I.tuple h2
  obtain⟨as,q⟩:=aO.reads I h3 rv
  exact⟨_,.tuple e1 e2 e4 (by simpa using q)⟩
 | .dict _,_,_,h,_=>by unfold Den at h;exact h.elim
theorem aO.reads {X:Cx}{pins:List (Addr×Obj)}{σ:St}{H:Hp}{s:Shared}(I:Inv X pins σ H s):∀{ds:List PyData} {vs:List V} {us:List Value},aO X.K H ds vs->Vals vs us->∃as,ReadsAll s.heap us ds as
 | [],_,_,h,r=>by unfold aO at h;subst h;cases r;exact⟨_,.nil⟩
 | d::ds,_,_,h,r=>by
  unfold aO at h
  obtain⟨v,q,rfl,h2,h3⟩:=h
  cases r with
  | cons r1 r2=>
   obtain⟨as,q1⟩:=Den.reads I h2 r1
   obtain⟨bs,q2⟩:=aO.reads I h3 r2
   exact⟨_,.cons q1 q2⟩
end
section
variable {X:Cx}
open PySem.SeqAt in
theorem DX (hu:X.A.units+64<cLine):fj X (compareOp .Eq) (fun x y H Q=>∃d e,Den X.K H d x/\Den X.K H e y/\shaped d=true/\shaped e=true/\Q (.bl (PyData.eqv d e)) H):=by
 intro pins s σ H x y v u Q I rx ry h
 obtain⟨d,e,hd,he,sd,se,q⟩:=h
 obtain⟨as,r1⟩:=hd.reads I rx
 obtain⟨bs,r2⟩:=he.reads I ry
 exact eq_dataH r1 r2 sd se hu ⟨.bl _,H,I,rfl,q⟩
open PySem.SeqAt in
theorem DB (hu:X.A.units+64<cLine):fj X (compareOp .NotEq) (fun x y H Q=>∃d e,Den X.K H d x/\Den X.K H e y/\shaped d=true/\shaped e=true/\Q (.bl (!PyData.eqv d e)) H):=by
 intro pins s σ H x y v u Q I rx ry h
 obtain⟨d,e,hd,he,sd,se,q⟩:=h
 obtain⟨as,r1⟩:=hd.reads I rx
 obtain⟨bs,r2⟩:=he.reads I ry
 exact ne_dataH r1 r2 sd se hu ⟨.bl _,H,I,rfl,q⟩
theorem DS:fj X (compareOp .Is) (fun x y H Q=>∃a b,x = .bl a/\y = .bl b/\Q (.bl (decide (a=b))) H):=by
 intro pins s σ H x y v u Q I rx ry h
 obtain⟨a,b,rfl,rfl,q⟩:=h
 cases rx;cases ry
 refine wpAny_is_plain rfl (aY I q ?_)
 cases a<;>cases b<;>rfl
theorem uV:fj X (compareOp .IsNot) (fun x y H Q=>∃a b,x = .bl a/\y = .bl b/\Q (.bl (!decide (a=b))) H):=by
 intro pins s σ H x y v u Q I rx ry h
 obtain⟨a,b,rfl,rfl,q⟩:=h
 cases rx;cases ry
 refine wpAny_isNot_plain rfl (aY I q ?_)
 cases a<;>cases b<;>rfl
theorem xx:bU X (.builtin "isinstance") (fun xs H Q=>∃x T t b,xs=[x,.ty T]/\iZ X.K H x t/\Yw X.K t (.type T)=some b/\Q (.bl b) H):=by
 intro pins s σ H xs us Q I r h
 obtain⟨x,T,t,b,rfl,ty,e,q⟩:=h
 obtain⟨u,w',rfl,r1,r2⟩:=vals2 r
 cases r2
 exact vk I r1 ty e fun tk=>⟨.bl b,H,I.tok _,rfl,q⟩
theorem C9:y8 X (fun x lo hi H Q=>∃z,x = .str z/\z.length<=sizeLine/\Q (.str (Txt.slice z lo hi)) H):=by
 intro pins s σ H x v vl vu lo hi sl Q I rx hs pl pu q
 obtain⟨z,rfl,hz,q⟩:=q
 obtain⟨t,rfl⟩:=rx
 refine⟨"str",_,F.slot_str_getitem.lookup,typeIs_str _ _ _,?_⟩
 have fin:∀t' k,EP X pins σ Q (.str (Txt.slice z lo hi) t') { s with toks:=k }:=fun t' k=>⟨.str _,H,I.tok _,⟨_,rfl⟩,q⟩
 cases pl with
 | none=>
  cases pu with
  | none=>exact wpAny_getItem_str_slice (l:=none) (u:=none) (st:=none) hs rfl (post_val_or_str ⟨Ju (Txt.slice_le z _ _) hz,fin⟩)
  | int j uj=>exact wpAny_getItem_str_slice (l:=none) (u:=some (j,uj)) (st:=none) hs rfl (post_val_or_str ⟨Ju (Txt.slice_le z _ _) hz,fin⟩)
 | int i ui=>
  cases pu with
  | none=>exact wpAny_getItem_str_slice (l:=some (i,ui)) (u:=none) (st:=none) hs rfl (post_val_or_str ⟨Ju (Txt.slice_le z _ _) hz,fin⟩)
  | int j uj=>exact wpAny_getItem_str_slice (l:=some (i,ui)) (u:=some (j,uj)) (st:=none) hs rfl (post_val_or_str ⟨Ju (Txt.slice_le z _ _) hz,fin⟩)
end
section
variable {X:Cx}{pins:List (Addr×Obj)}{σ:St}{H:Hp}{s:Shared}{h':Heap}
theorem Inv.iter {t':Nat}{ch:List Addr}(I:Inv X pins σ H s)(hf:∀b∈ch,d6 X pins H b)(keep:∀b o,b∉ch->s.heap.get? b=some o->h'.get? b=some o):Inv X pins σ H { s with heap:=h',toks:=t' }:=by
 have Be:∀b u,H b=some u->b∉ch:=fun b u e z=>by rw[(hf b z).1] at e;cases e
 refine I.step (g':=s.gens) (d':=s.drawn) (ch:=ch) (fun b hb=>⟨(hf b hb).2.2.2.1,(hf b hb).2.1,(hf b hb).2.2.2.2.1,(hf b hb).2.2.2.2.2⟩) (fun b o _ _ hc e _=>keep b o hc e) (fun b o _ _ hc e _=>⟨o.slots,keep b o hc e⟩)
  (fun _ _ _ _ n=>n) (fun b o hc e=>⟨o,keep b o hc e⟩) (fun _ _ e=>e) (fun _ _ _ e=>e) (fun b ps e=>⟨#[],by rw[e];simp⟩) (fun m hm=>hm.at' fun o e=>keep _ o (fun z=>(hf _ z).2.1 rfl) e) (fun b u e =>?_) I.bare
 refine(I.aR b u e).kM (fun c v hc q=>keep c v ?_ q) (fun _ q=>q) fun _ _ q=>q
 rcases hc with z|z
 ·rw[z];exact Be b u e
 ·exact Be c _ z
theorem Inv.adopt {T:Addr}{o:HO}(I:Inv X pins σ H s)(hT:d6 X pins H T)(hex:X.s₀.heap.objs.size<=T)(new:bq X.prog X.w (upd H T o) s.heap T o):Inv X pins σ (upd H T o) s:=
 ⟨I.ok,I.os,I.bare,⟨I.base.keep,I.base.slot,fun b ob e n hx=>by rw[aj (cn (Jk e) hex)];exact I.base.free b ob e n hx,I.base.there,
   fun b xs e=>by rw[aj (ai (I.base.gC b xs e) hT.1)];exact I.base.gC b xs e,fun b ob xs e=>by rw[aj (ai (I.base.fB b ob xs e) hT.1)];exact I.base.fB b ob xs e,
   fun b ps e=>by
    obtain⟨m,q⟩:=I.base.gM b ps e
    exact⟨m,by rw[aj (ai q hT.1)];exact q⟩⟩,
  I.loc,I.cell,by rw[aj (Ne.symm hT.2.1)];exact I.free,fun x c e=>by rw[aj (hT.2.2.2.2.1 x c e)];exact I.freeC x c e,
  fun p hp=>by
   refine ae.el (I.pin p hp) _ ?_
   rintro a b c d f
   exact⟨a,by rw[aj (hT.2.2.2.2.2 p hp)];exact b,c,d,f⟩,I.aR.adopt hT.1 new,I.len⟩
end
theorem qc {xs:List V}{az:List Value}{i:Nat}{x:V}(r:Vals xs az)(e:xs[i]? = some x):∃u,az.toArray[i]? = some u/\RelV x u:=by
 refine ae.el (r.get e) _ ?_
 rintro u h1 h2
 exact⟨u,by simpa using h1,h2⟩
section
variable {X:Cx}
def Fe:R2:=fun x y H Q=>(bO fun i j=>x = .int i/\y = .int j/\Q (.int (i+j)) H)∨(∃i j,x = .str i/\y = .str j/\i.length+j.length<=sizeLine/\Q (.str (i++j)) H)∨GX x y H Q
theorem FG:fj X (binaryOp .Add) Fe:=Cz.or (si.or CM)
def EL:R2:=fun x y H Q=>(bO fun i j=>x = .int i/\y = .int j/\rq i j/\Q (.int (i*j)) H)∨Fg x y H Q
theorem G2:fj X (binaryOp .Mult) EL:=DT.or CY
structure Fn (P:Program)(w:World)(K:Jc)(mg:Str->Option Value)(base:Heap)(k:Nat)(x:Str)(ps:List Str)(sp:Sp):Prop where
 ex:∃f fd,bI P w K mg base fY k f fd ps sp/\Binds K fd ps []/\PySem.W.keepIn K (.ref f)=true/\mg x=some (.ref f)
theorem Fn.mono {P:Program}{w:World}{K:Jc}{mg:Str->Option Value}{base:Heap}{j k:Nat}{x:Str}{ps:List Str}{sp:Sp}(F:Fn P w K mg base j x ps sp)(h:j<=k):Fn P w K mg base k x ps sp:=by
 refine ae.el (F.ex) _ ?_
 rintro f fd a b c d
 exact⟨f,fd,a.mono h,b,c,d⟩
theorem bb {k:Nat}{x:Str}{ps:List Str}{sp:Sp}{p pos:Pos}{e:Expr}{es:List Expr}{t:TA}(F:Fn X.prog X.w X.K X.mg X.base k x ps sp)(hr:dS k X.A)(hg:Gl X x)
  (ha:PA X (e::es) t) (xM:(x==("__debug__" : Str))=false:=by decide) (he:starEach (e::es) X.env=(false,eval e X.env)::starEach es X.env:=by rfl) (mG:(backTo pos (starEach es X.env)).any (·.1)=false:=by rfl) :
  PE X (.Call (.Name x p) (e::es) [] pos) (BM sp [] E0 t):=by
 refine ae.el (F.ex) _ ?_
 rintro f fd a b c d
 exact zV a hr hg d c b .nil GG ha xM he mG
end
noncomputable def tJ (pn sn:List (Str×NameKind))(N Fc:List Str)(js:List Nat):Bool:=
 sn.all (fun y=>y.2 != .cell)&&sn.all (fun y=>y.2 != .local||sn.lookup y.1==some .local)&&sn.all (fun y=>y.2 != .free||pn.lookup y.1==some .cell||pn.lookup y.1==some .free)&&js.length==Fc.length &&
 (We Fc.length).all fun k=>match Fc[k]?,js[k]? with
  | some x,some j=>sn.lookup x==some .free&&N[j]? == some x
  | _,_=>false
theorem aK {X:Cx}{scope:Scope}{Nc Fc:List Str}{js:List Nat}(hk:scope.kind = .function:=by rfl)(h:tJ X.env.scope.names scope.names X.N Fc js=true:=by rfl):dY X scope Nc Fc js:=by
 unfold tJ at h
 simp -iota only [Yh,Y3,Bool.or_eq_true,bne_iff_ne,beq_iff_eq,ne_eq] at h
 obtain⟨⟨⟨⟨h1,h2⟩,h3⟩,h4⟩,h5⟩:=h
 refine⟨hk,h1,fun y hy hl=>(h2 y hy).resolve_left (fun z=>z hl),fun y hy hf =>?_,fun k x hx =>?_,h4⟩
 ·rcases h3 y hy with (z|z)|z
  ·exact absurd hf z
  ·exact .inl z
  ·exact .inr z
 ·have Pd:k<Fc.length:=(Jy.mp hx).1
  have q:=h5 k (Wr.mpr Pd)
  have hj:k<js.length:=by omega
  rw[hx,Jg hj] at q
  simp only[Yh,beq_iff_eq] at q
  exact⟨q.1,_,Jg hj,q.2⟩
section
variable {X:Cx}
theorem MF (hu:X.A.units+64<cLine):fj X (compareOp .Eq) (fun x y H Q=>KG x y H Q∨(∃d e,Den X.K H d x/\Den X.K H e y/\SeqAt.shaped d=true/\SeqAt.shaped e=true/\Q (.bl (PyData.eqv d e)) H)):=FR.or (DX hu)
theorem MJ (hu:X.A.units+64<cLine):fj X (compareOp .NotEq) (fun x y H Q=>Me x y H Q∨(∃d e,Den X.K H d x/\Den X.K H e y/\SeqAt.shaped d=true/\SeqAt.shaped e=true/\Q (.bl (!PyData.eqv d e)) H)):=GC.or (DB hu)
theorem EK:fj X (compareOp .Is) (fun x y H Q=>(y = .non/\Q (.bl (decide (x = .non))) H)∨(∃a b,x = .bl a/\y = .bl b/\Q (.bl (decide (a=b))) H)):=B8.or DS
theorem ig:fj X (compareOp .IsNot) (fun x y H Q=>(y = .non/\Q (.bl (!decide (x = .non))) H)∨(∃a b,x = .bl a/\y = .bl b/\Q (.bl (!decide (a=b))) H)):=Bb.or uV
theorem E8:y8 X (fun x lo hi H Q=>C5 X.K x lo hi H Q∨(∃z,x = .str z/\z.length<=sizeLine/\Q (.str (Txt.slice z lo hi)) H)):=A2.or C9
structure Nm (mg:Str->Option Value):Prop where
 n_len:mg "len" = none
 n_range:mg "range" = none
 n_max:mg "max" = none
 n_min:mg "min" = none
 n_sum:mg "sum" = none
 n_all:mg "all" = none
 n_any:mg "any" = none
 n_list:mg "list" = none
 n_tuple:mg "tuple" = none
 n_int:mg "int" = none
 n_str:mg "str" = none
 n_bool:mg "bool" = none
 n_zip:mg "zip" = none
 n_enumerate:mg "enumerate" = none
 n_isinstance:mg "isinstance" = none
 n_divmod:mg "divmod" = none
end
theorem aV {J:It}{n:Nat}{js:List Nat}{g:TG}{tc:TT}{te:TE}{σ:St}{H1:Hp}{fin:List V->Hp->Prop}(N:Nat)(Pv:Nat->List V->Hp->Prop)(h0:Pv 0 [] H1)
  (go:∀i ys H (Nx:List V->Hp->Prop),i<N->Pv i ys H->(∀ys' H',Pv (i+1) ys' H'->Nx ys' H')->J.go i H/\ys.length<sizeLine /\
   ∀x H',J.yld i H x H'->g x (Jp n none++cO σ js) H' fun σ2 H2=>tc σ2 H2 fun b H3=>if b=true then te σ2 H3 fun y H4=>Nx (ys++[y]) H4 else Nx ys H3)
  (stop:∀ys H,Pv N ys H->J.stop N H/\fin ys H):tT J n js g tc te σ H1 fin:=by
 refine⟨fun i m ys H=>m=N-i/\i<=N/\Pv i ys H,⟨N,by simp,Us _,h0⟩,?_⟩
 intro i m ys H
 refine ae.go ?_
 rintro rfl hi p
 by_cases bN:i<N
 ·exact .inr (go i ys H (fun ys' H'=>∃m',m'<N-i/\(m'=N-(i+1)/\i+1<=N/\Pv (i+1) ys' H')) bN p fun ys' H' q=>⟨_,by omega,rfl,bN,q⟩)
 ·have e:i=N:=by omega
  subst e
  exact .inl (stop ys H p)
section
variable {X:Cx}(K:Jc)
theorem A3 (hK:X.K=K:=by rfl):ze X (Oa K):=by subst hK;exact Cu
theorem N7 (hK:X.K=K:=by rfl):y8 X (fun x lo hi H Q=>C5 K x lo hi H Q∨(∃z,x = .str z/\z.length<=sizeLine/\Q (.str (Txt.slice z lo hi)) H)):=by subst hK;exact E8
theorem dE (hK:X.K=K:=by rfl):bU X (.builtin "len") (fun xs H Q=>∃x n,xs=[x]/\Dh K x H n/\Q (.int n) H):=by subst hK;exact xR
theorem EG (hK:X.K=K:=by rfl):B1 X "str.join" (fun x vs H Q=>∃(sep:Str) (p:Addr) (xs:List Str),x = .str sep/\vs=[.ref p]/\aD K H p (xs.map V.str)/\(xs.map (·.length)).sum+xs.length*sep.length<=16777216/\Q (.str (Txt.join sep xs)) H):=by subst hK;exact AL
theorem gr {tg l:Expr}{tl:TE}(hl:PE X l tl)(hK:X.K=K:=by rfl):PI X tg l (BX K tl):=by subst hK;exact A7 hl
theorem tupK {pos:Pos}{es:List Expr}{k:Nat}{t:u5}(n:Nat)(hc:X.calm=true)(h:EN X es t)(hn:(assignEach es X.env).length=n:=by rfl)(i5:(assignEach es X.env).findIdx? (·.1)=none:=by rfl)(hK:X.K=K:=by rfl):PG X (.Tuple es k pos) (DR K n t):=by subst hK;exact Cg hc h hn i5
theorem sr {o e:Expr}{es:List Expr}{to:TE}{t:TA}{name:Str}{apos gi:Pos}{T id:String}{r:V->List V->Hp->VK->Prop}(pa:PlainAttrs T)(slot:Slot T name id)(DY:typeOf (.builtin id)=pure (.type "method_descriptor"))(hm:B1 X id r)(ho:PE X o to)(ha:PA X (e::es) t)
  (kC:attributeBase o name X.env (eval o X.env)=eval o X.env:=by rfl)
  (DG:((backTo gi (starEach (e::es) X.env)).all (fun x => !x.1)&&(backToKw gi (keywordEach [] X.env)).all (fun x=>x.1.isSome)
   && decide ((e::es).length+([]:List Keyword).length+(if ([]:List Keyword).isEmpty then 0 else 1)<30))=true:=by rfl)
  (lQ:(apos.endLine==gi.line)=true:=by rfl) (hs:starEach (e::es) X.env=(false,eval e X.env)::starEach es X.env:=by rfl) (rZ:(backTo gi (starEach es X.env)).any (·.1)=false:=by rfl) (hK:X.K=K:=by rfl) :
  PE X (.Call (.Attribute o name apos) (e::es) [] gi) (Nq K T r to t):=by subst hK;exact HE pa slot DY hm ho ha kC DG lQ hs rZ
theorem Ca {o:Expr}{to:TE}{name:Str}{apos gi:Pos}{T id:String}{r:V->List V->Hp->VK->Prop}(pa:PlainAttrs T)(slot:Slot T name id)(DY:typeOf (.builtin id)=pure (.type "method_descriptor"))(hm:B1 X id r)(ho:PE X o to)
  (kC:attributeBase o name X.env (eval o X.env)=eval o X.env:=by rfl) (lQ:(apos.endLine==gi.line)=true:=by rfl) (hK:X.K=K:=by rfl):PE X (.Call (.Attribute o name apos) [] [] gi) (Gr K T r to):=by subst hK;exact CK pa slot DY hm ho kC lQ
theorem vU (hu:X.A.units+64<cLine)(hK:X.K=K:=by rfl):fj X (compareOp .Eq) (fun x y H Q=>KG x y H Q∨(∃d e,Den K H d x/\Den K H e y/\SeqAt.shaped d=true/\SeqAt.shaped e=true/\Q (.bl (PyData.eqv d e)) H)):=by subst hK;exact MF hu
theorem oP (hu:X.A.units+64<cLine)(hK:X.K=K:=by rfl):fj X (compareOp .NotEq) (fun x y H Q=>Me x y H Q∨(∃d e,Den K H d x/\Den K H e y/\SeqAt.shaped d=true/\SeqAt.shaped e=true/\Q (.bl (!PyData.eqv d e)) H)):=by subst hK;exact MJ hu
end
abbrev Keeps (g h:Heap)(c:Addr->Prop):Prop:=∀b o,¬c b->g.get? b=some o->h.get? b=some o
structure xa (prog:Program)(w:World)(A:Around)(it S:Addr)(T:String)(fp:Addr->Prop)(n:Nat)(P:Nat->Value->Heap->Prop)(R:Value->Value->Prop)(St:Nat->Heap->Prop):Prop where
 sfp:¬fp S
 ne:it≠S
 ty:∀i h,St i h->∃o,h.get? it=some o/\o.cls = .type T
 self:∀(s:Shared) (Q:Value->Shared->Prop) (E:Value->Shared->Prop),St 0 s.heap->Q (.ref it) s->wpAny (model prog w) A (pyIter (.ref it)) Q E s
 item:∀i (s:Shared) (Q:Option Value->Shared->Prop) (E:Value->Shared->Prop),i<n->St i s.heap->S<s.heap.objs.size ->
  (∀v h' tk,Keeps s.heap h' fp->St (i+1) h'->P i v h'->(∀j u,P j u s.heap->R u v)->Q (some v) { s with heap:=h',toks:=tk })->wpAny (model prog w) A (pyNext (.ref it)) Q E s
 stop:∀(s:Shared) (Q:Option Value->Shared->Prop) (E:Value->Shared->Prop),St n s.heap->S<s.heap.objs.size->(∀h' tk,Keeps s.heap h' fp->Q none { s with heap:=h',toks:=tk })->wpAny (model prog w) A (pyNext (.ref it)) Q E s
 keepS:∀i h h',St i h->Keeps h h' (· = S)->St i h'
 keepP:∀j v h h',P j v h->Keeps h h' (fun b=>fp b∨b=S)->P j v h'
 nolen:typeLookup (.type T) "__len__" = pure none
 nohint:typeLookup (.type T) "__length_hint__" = pure none
 nl:(Value.type T==Value.type "list")=false
 nt:(Value.type T==Value.type "tuple")=false
structure qG (h:Heap)(S:Addr)(i:Nat)(P:Nat->Value->Heap->Prop)(R:Value->Value->Prop)(acc:Array Value)(c:Nat):Prop where
 ob:h.get? S=some { cls := .type "list",data := .seq acc c }
 sz:acc.size=i
 pw:acc.toList.Pairwise R
 all:∀(j:Nat) v,acc[j]? = some v->P j v h
abbrev sU (prog:Program)(w:World)(A:Around)(R:Result->Shared->Prop):Fin->Shared->Prop:=fun fin s'=>match fin with
 | .done f=>R (.ok f) s'
 | .again c'=>c'.quiet=true/\codeAny (model prog w) A c' R s'
section
variable {prog:Program}{w:World}{A:Around}{it S:Addr}{T:String}{fp:Addr->Prop}{n:Nat}{P:Nat->Value->Heap->Prop}{R:Value->Value->Prop}{St:Nat->Heap->Prop}
abbrev j5 (g:Heap)(S:Addr)(fp:Addr->Prop)(n:Nat)(P:Nat->Value->Heap->Prop)(R:Value->Value->Prop)(s:Shared)(Z:Shared->Prop):Prop:=
 ∀h' tk acc c,Keeps g h' (fun b=>fp b∨b=S)->qG h' S n P R acc c->Z { s with heap:=h',toks:=tk }
theorem mE (Fd:xa prog w A.in1 it S T fp n P R St)(hn:n<=sizeLine){s:Shared}{Z:Result->Shared->Prop}{res:Value}{g:Heap}(fin:j5 g S fp n P R s (Z (.ok (.ret res)))):
  ∀(k i:Nat) (h:Heap) (tk:Nat) (acc:Array Value) (c:Nat),i+k=n->St i h->qG h S i P R acc c->Keeps g h (fun b=>fp b∨b=S) ->
   codeAny (model prog w) A (.builtin "list.extend.loop" ⟨[.ref S,.ref it,res],[]⟩) Z { s with heap:=h,toks:=tk }
 | 0,i,h,tk,acc,c,hk,i5,G,kp=>by
  have e:i=n:=by omega
  subst e
  refine codeAny_builtin PySem.F.entry_extend_loop ?_
  rw[Around.under_plainId PySem.F.plain_extend_loop _]
  refine wpAny_bind (Fd.stop { s with heap:=h,toks:=tk } _ _ i5 (Jk G.ob) fun h' tk' k'=>wpAny_pure ?_)
  exact fin h' tk' acc c (fun b o nb q=>k' b o (fun z=>nb (.inl z)) (kp b o nb q)) ⟨k' _ _ Fd.sfp G.ob,G.sz,G.pw,fun j v e=>Fd.keepP _ _ _ _ (G.all j v e) fun b o nb q=>k' b o (fun z=>nb (.inl z)) q⟩
 | k+1,i,h,tk,acc,c,hk,i5,G,kp=>by
  refine codeAny_builtin PySem.F.entry_extend_loop ?_
  rw[Around.under_plainId PySem.F.plain_extend_loop _]
  refine wpAny_bind (Fd.item i { s with heap:=h,toks:=tk } _ _ (by omega) i5 (Jk G.ob) fun v h' tk' k' aE pv rv =>?_)
  have Dx:=k' _ _ Fd.sfp G.ob
  have other:Keeps h' (h'.update S (Obj.mapSeq (·.push v))) (· = S):=fun b o nb q=>(Uq _ _ (Ne.symm nb)).trans q
  have k2:Keeps h (h'.update S (Obj.mapSeq (·.push v))) (fun b=>fp b∨b=S):=fun b o nb q=>other b o (fun z=>nb (.inr z)) (k' b o (fun z=>nb (.inl z)) q)
  have sz:=G.sz
  refine wpAny_bind (wpAny_updateSeq Dx rfl (wpAny_pure ⟨plainId_quiet PySem.F.plain_extend_loop _,?_⟩) (by rw[sz];omega) (by show(acc.push v).size<=sizeLine+1;rw[Wj,sz];omega))
  refine mE Fd hn fin k (i+1) _ tk' (acc.push v) _ (by omega) (Fd.keepS _ _ _ aE other) ⟨Ur _ Dx rfl,by rw[Wj,sz],?_,fun j u e =>?_⟩ (fun b o nb q=>k2 b o nb (kp b o nb q))
  ·rw[Yl]
   refine Ug.mpr ⟨G.pw,List.pairwise_singleton _ _,fun a ha b hb =>?_⟩
   obtain⟨j,hj⟩:=U5.mp ha
   rw[Jd.mp hb]
   exact rv j a (G.all j a (by simpa using hj))
  ·by_cases hj:j<i
   ·rw[Array.getElem?_push_lt (by omega)] at e
    exact Fd.keepP _ _ _ _ (G.all j u (by rw[Ub (by omega)];exact e)) k2
   ·have yF:j=i:=by
     have:=(Array.getElem?_eq_some_iff.mp e).1
     rw[Wj] at this
     omega
    subst yF
    have e':(acc.push v)[acc.size]? = some u:=by rw[sz];exact e
    rw[Array.getElem?_push_size] at e'
    cases e'
    exact Fd.keepP _ _ _ _ pv fun b o nb q=>other b o (fun z=>nb (.inr z)) q
theorem pO (Fd:xa prog w A.in1 it S T fp n P R St)(hn:n<=sizeLine){s:Shared}{Z:Result->Shared->Prop}{res:Value}{c₀:Nat}(i5:St 0 s.heap)(hS:s.heap.get? S=some { cls := .type "list",data := .seq #[] c₀ })
  (fin:j5 s.heap S fp n P R s (Z (.ok (.ret res)))) :
  wpAny (model prog w) A.in1 (Builtin.List.listExtendWith (.ref S) (.ref it) res) (sU prog w A Z) (fun e s'=>Z (.error e) s') s:=by
 have go:∀(h:Heap) (c tk:Nat),Keeps s.heap h (· = S)->h.get? S=some { cls := .type "list",data := .seq #[] c } -> codeAny (model prog w) A (.builtin "list.extend.loop" ⟨[.ref S,.ref it,res],[]⟩) Z { s with heap:=h,toks:=tk }:=
  fun h c tk k o=>mE Fd hn fin n 0 h tk #[] c (by omega) (Fd.keepS _ _ _ i5 k) ⟨o,rfl,.nil,fun j v e=>by simp at e⟩ fun b o nb q=>k b o (fun z=>nb (.inr z)) q
 obtain⟨oi,hoi,hci⟩:=Fd.ty 0 _ i5
 have hT:s.TypeIs (.ref it) T:=⟨oi,hoi,hci⟩
 have yz:Builtin.List.listSameRef (.ref S) (.ref it)=false:=by simp[Builtin.List.listSameRef,Ne.symm Fd.ne]
 unfold Builtin.List.listExtendWith
 refine wpAny_bind (wpAny_typeOf hT ?_)
 simp only[yz,Fd.nl,Fd.nt,Bool.or_false,Ua,if_false]
 refine wpAny_bind (Fd.self s _ _ i5 ?_)
 have hint:∀(Q:Bool->Shared->Prop),Q true s->wpAny (model prog w) A.in1 (Builtin.List.listLengthHint (.ref it)) Q (fun e s'=>Z (.error e) s') s:=fun Q q=>by
  unfold Builtin.List.listLengthHint
  refine wpAny_bind (wpAny_specialOf hT Fd.nolen ?_)
  refine wpAny_ite_split (fun z=>absurd z (by decide)) fun _=>wpAny_ite_split (fun z=>absurd z (by decide)) fun _ =>?_
  exact wpAny_bind (wpAny_specialOf hT Fd.nohint (wpAny_pure q))
 refine wpAny_bind (wpAny_holding (hint _ ?_))
 refine wpAny_ite_split (fun _ =>?_) fun _=>wpAny_pure ⟨plainId_quiet PySem.F.plain_extend_loop _,go _ c₀ _ (fun _ _ _ q=>q) hS⟩
 refine wpAny_bind (wpAny_rule (wpAny_bind ?_))
 have o1:=Ur (Obj.mapSeq (·.push Value.none)) hS rfl
 have o2:=Ur (Obj.mapSeq (·.pop)) o1 rfl
 refine wpAny_bind (wpAny_updateSeq hS rfl (wpAny_updateSeq (hz:=by seq_fits) o1 rfl (wpAny_pure ⟨plainId_quiet PySem.F.plain_extend_loop _,go _ _ _ (fun b o nb q =>?_) o2⟩)))
 exact(Uq _ _ (Ne.symm nb)).trans ((Uq _ _ (Ne.symm nb)).trans q)
theorem vd (Fd:xa prog w A.in1 it S T fp n P R St)(hn:n<=sizeLine){s:Shared}{Z:Result->Shared->Prop}(i5:St 0 s.heap)(hS:s.heap.get? S=some { cls := .type "list",data := .seq #[] })
  (fin:j5 s.heap S fp n P R s (Z (.ok (.ret .none)))) :
  wpAny (model prog w) A.in1 (Builtin.«list.__init__» ⟨[.ref S,.ref it],[]⟩) (sU prog w A Z) (fun e s'=>Z (.error e) s') s:=by
 refine wpAny_bind ?_
 unfold Builtin.List.listItems
 refine wpAny_bind (wpAny_seqItems hS rfl (wpAny_pure ?_))
 have o1:=Ur (Obj.mapSeq (fun _=>(#[]:Array Value))) hS rfl
 have k1:Keeps s.heap (s.heap.update S (Obj.mapSeq (fun _=>(#[]:Array Value)))) (· = S):=fun b o nb q=>(Uq _ _ (Ne.symm nb)).trans q
 refine wpAny_bind (wpAny_updateSeq hS rfl (wpAny_bind (wpAny_letGo ?_)))
 refine pO (s:={ s with heap:=_ }) Fd hn (Fd.keepS _ _ _ i5 k1) o1 fun h' tk acc c k G =>?_
 exact fin h' tk acc c (fun b o nb q=>k b o nb (k1 b o (fun z=>nb (.inr z)) q)) G
theorem uH {s:Shared}{Q:Value->Shared->Prop}{E:Value->Shared->Prop}(Fd:xa prog w A.in1.in1 it s.heap.objs.size T fp n P R St)(hn:n<=sizeLine)(i5:∀o,St 0 (s.heap.push o))
  (fin:∀h' tk acc c,Keeps s.heap h' fp->qG h' s.heap.objs.size n P R acc c->Q (.ref s.heap.objs.size) { s with heap:=h',toks:=tk }) :
  wpAny (model prog w) A (call (.type "list") [.ref it]) Q E s:=by
 refine callType_codes (Q₁:=fun obj s₁=>obj = .ref s.heap.objs.size/\s₁={ s with heap:=s.heap.push { cls := .type "list",data := .seq #[] } }) F.called_list (F.typeCall_list_1 _) F.entry_list_init
  (code_list_new _ ⟨rfl,rfl⟩) fun obj s₁ h₁ =>?_
 obtain⟨rfl,rfl⟩:=h₁
 have hS:(s.heap.push { cls := .type "list",data := .seq #[] }).get? s.heap.objs.size=some { cls := .type "list",data := .seq #[] }:=Jo _ rfl
 refine⟨⟨_,hS,rfl⟩,F.args_list_init_2 _ _,vd (s:={ s with heap:=_ }) (A:=A.in1) Fd hn (i5 _) hS fun h' tk acc c k G=>⟨rfl,fin h' tk acc c (fun b o nb q =>?_) G⟩⟩
 exact k b o (fun z=>z.elim nb fun z=>cn (Jk q) (Jf _) z) (Jb _ q)
end
abbrev jD (h:Heap)(z TI TO a:Addr)(f:Bool):Prop:=
 h.get? z=some { cls := .type "zip",dict:=none,data := .fields #[rawInt a,.bool f,.bool false,.ref TI,.ref TO],slots := #[] }
section
variable {prog:Program}{w:World}{A:Around}{E:Value->Shared->Prop}{s:Shared}{z TI TO i1 i2 l1 l2 a:Addr}{f:Bool}{oa:Obj}
theorem qq {Q:Bool->Shared->Prop}(hz:jD s.heap z TI TO a f)(ha:s.heap.get? a=some oa)
  (q:∀h,jD h z TI TO a true->U6 z s.heap h->Q false { s with heap:=h }):wpAny (model prog w) A (Builtin.SmallTypes.ownedTupleIsFree (.ref z)) Q E s:=by
 unfold Builtin.SmallTypes.ownedTupleIsFree
 refine wpAny_bind (wpAny_field hz rfl (x:=rawInt a) rfl ?_)
 show wpAny _ _ (loadIfAlive ((a:Int).toNat) >>= _) _ _ _
 rw[Uz]
 refine wpAny_bind (PySem.W.kdx_alive ha ?_)
 simp -iota only [Option.isNone_some,Ua,if_false]
 refine wpAny_bind (wpAny_field hz rfl (x := .bool f) rfl ?_)
 cases f
 ·exact wpAny_bind (wpAny_setField_rec hz (by simp) fun h e k=>wpAny_pure (q h e k))
 ·exact wpAny_pure (q s.heap hz (U6.refl _ _))
theorem nY {k:Nat}{xs ys:Array Value}{x y:Value}{Q:Option Value->Shared->Prop}(D:ZipApart z TI TO i1 i2 l1 l2)(hz:jD s.heap z TI TO a f)(ha:s.heap.get? a=some oa)(vY:IsPair s.heap TI (.ref i1) (.ref i2))
  (h1:s.heap.IsListIter i1 l1 k) (h2:s.heap.IsListIter i2 l2 k) (tX:s.heap.IsList l1 xs) (vK:s.heap.IsList l2 ys) (hx:xs[k]? = some x) (hy:ys[k]? = some y)
  (q:∀h',jD h' z TI TO a true->h'.IsListIter i1 l1 (k+1)->h'.IsListIter i2 l2 (k+1)->IsPair h' s.heap.objs.size x y->Keeps s.heap h' (fun b=>b=z∨b=i1∨b=i2)->Q (some (.ref s.heap.objs.size)) { s with heap:=h' }) :
  wpAny (model prog w) A (pyNext (.ref z)) Q E s:=by
 have hT:s.TypeIs (.ref z) "zip":=⟨_,hz,rfl⟩
 unfold pyNext
 refine wpAny_bind (wpAny_attempt (wpAny_callSpecial?_slot (name:=Str.ofString "__next__") hT F.slot_zip_next (wpAny_call_entry F.slot_zip_next hT F.entry_zip_next ?_ (F.args_zip_next_1 _))))
 change wpAny _ _ (Bind.bind (field (.ref z) 2) _) _ _ _
 refine wpAny_bind (wpAny_field hz rfl (x := .bool false) rfl ?_)
 change wpAny _ _ (Bind.bind (field (.ref z) 3) _) _ _ _
 refine wpAny_bind (wpAny_field hz rfl (x := .ref TI) rfl (wpAny_bind (wpAny_seqItems vY rfl ?_)))
 change wpAny _ _ (Bind.bind (Builtin.SmallTypes.ownedTupleIsFree (.ref z)) _) _ _ _
 refine wpAny_bind (qq hz ha fun h0 z0 k0 =>?_)
 simp -iota only [Ua,if_false,<-Array.forIn_toList,Wi,List.forIn_nil]
 refine wpAny_bind (wpAny_bind (wpAny_bind (wpAny_holding (wpAny_bind (wpAny_nextOf_list_item (h1.extBut k0.extBut D.i1z) (tX.extBut k0.extBut D.l1z) hx fun h4 e4 k4=>wpAny_pure (wpAny_pure ?_))))))
 refine wpAny_bind (wpAny_bind (wpAny_holding (wpAny_bind (wpAny_nextOf_list_item ((h2.extBut k0.extBut D.i2z).extBut k4.extBut D.i12.symm) ((vK.extBut k0.extBut D.l2z).extBut k4.extBut D.l2i1) hy fun h5 e5 k5=>wpAny_pure (wpAny_pure (wpAny_pure ?_))))))
 refine wpAny_bind (wpAny_newTuple (hsz:=by show 2<=sizeLine;decide) (wpAny_pure ⟨_,rfl,wpAny_pure ?_⟩))
 have hsz:h5.objs.size=s.heap.objs.size:=by rw[k5.1,k4.1,k0.1]
 show Q (some (.ref h5.objs.size)) _
 rw[hsz]
 refine q (h5.push { cls := .type "tuple",data := .seq #[x,y] }) (Jb _ (k5.extBut _ _ D.i2z.symm (k4.extBut _ _ D.i1z.symm z0))) ((e4.extBut k5.extBut D.i12).at fun o e=>Jb _ e) (e5.at fun o e=>Jb _ e) (by rw[<-hsz];exact Jo _ rfl) fun b o nb e =>?_
 exact Jb _ (k5.extBut _ _ (fun z=>nb (.inr (.inr z))) (k4.extBut _ _ (fun z=>nb (.inr (.inl z))) (k0.extBut _ _ (fun z=>nb (.inl z)) e)))
theorem nv {k:Nat}{xs ys:Array Value}{Q:Option Value->Shared->Prop}(hh:A.handled=none)(D:ZipApart z TI TO i1 i2 l1 l2)(hz:jD s.heap z TI TO a f)(ha:s.heap.get? a=some oa)(vY:IsPair s.heap TI (.ref i1) (.ref i2))
  (h1:s.heap.IsListIter i1 l1 k) (h2:s.heap.IsListIter i2 l2 k) (tX:s.heap.IsList l1 xs) (vK:s.heap.IsList l2 ys) (he:xs[k]? = none∨ys[k]? = none)
  (q:∀h',Keeps s.heap h' (fun b=>b=z∨b=i1∨b=i2)->Q none { s with heap:=h' }) :
  wpAny (model prog w) A (pyNext (.ref z)) Q E s:=by
 have hT:s.TypeIs (.ref z) "zip":=⟨_,hz,rfl⟩
 unfold pyNext
 refine wpAny_bind (wpAny_attempt (wpAny_callSpecial?_slot (name:=Str.ofString "__next__") hT F.slot_zip_next (wpAny_call_entry F.slot_zip_next hT F.entry_zip_next ?_ (F.args_zip_next_1 _))))
 change wpAny _ _ (Bind.bind (field (.ref z) 2) _) _ _ _
 refine wpAny_bind (wpAny_field hz rfl (x := .bool false) rfl ?_)
 change wpAny _ _ (Bind.bind (field (.ref z) 3) _) _ _ _
 refine wpAny_bind (wpAny_field hz rfl (x := .ref TI) rfl (wpAny_bind (wpAny_seqItems vY rfl ?_)))
 change wpAny _ _ (Bind.bind (Builtin.SmallTypes.ownedTupleIsFree (.ref z)) _) _ _ _
 refine wpAny_bind (qq hz ha fun h0 z0 k0 =>?_)
 simp -iota only [Ua,if_false,<-Array.forIn_toList,Wi,List.forIn_nil]
 refine wpAny_bind (wpAny_bind (wpAny_bind (wpAny_holding ?_)))
 cases hx:xs[k]? with
 | none=>
  refine wpAny_bind (wpAny_nextOf_list_end hh (h1.extBut k0.extBut D.i1z) (tX.extBut k0.extBut D.l1z) hx fun h4 e k4 oe =>?_)
  refine ae.el (oe) _ ?_
  rintro o ho hc
  exact wpAny_bind (wpAny_isInstance (T := "StopIteration") (b:=true) ⟨o,ho,hc⟩ isSubtype_stop (wpAny_pure (q h4 fun b o nb x=>k4 _ _ (fun z=>nb (.inr (.inl z))) (k0.extBut _ _ (fun z=>nb (.inl z)) x))))
 | some x=>
  have hy:ys[k]? = none:=he.resolve_left (by rw[hx];exact fun z=>nomatch z)
  refine wpAny_bind (wpAny_nextOf_list_item (h1.extBut k0.extBut D.i1z) (tX.extBut k0.extBut D.l1z) hx fun h4 e4 k4=>wpAny_pure (wpAny_pure ?_))
  refine wpAny_bind (wpAny_bind (wpAny_holding (wpAny_bind (wpAny_nextOf_list_end hh ((h2.extBut k0.extBut D.i2z).extBut k4.extBut D.i12.symm) ((vK.extBut k0.extBut D.l2z).extBut k4.extBut D.l2i1) hy fun h5 e k5 oe =>?_))))
  refine ae.el (oe) _ ?_
  rintro o ho hc
  exact wpAny_bind (wpAny_isInstance (T := "StopIteration") (b:=true) ⟨o,ho,hc⟩ isSubtype_stop (wpAny_pure (q h5 fun b o nb x=>k5 _ _ (fun z=>nb (.inr (.inr z))) (k4.extBut _ _ (fun z=>nb (.inr (.inl z))) (k0.extBut _ _ (fun z=>nb (.inl z)) x)))))
end
structure qT (z TI TO i1 i2 l1 l2 S:Addr)(xs ys:Array Value)(i:Nat)(h:Heap):Prop where
 ti:IsPair h TI (.ref i1) (.ref i2)
 to:∃a b,IsPair h TO a b
 it1:h.IsListIter i1 l1 i
 it2:h.IsListIter i2 l2 i
 a1:h.IsList l1 xs
 a2:h.IsList l2 ys
 zp:IsZip h z TI TO .none∨0<i/\∃a f oa,jD h z TI TO a f/\h.get? a=some oa/\S<a
abbrev yk (z TO i1 i2:Addr)(b:Addr):Prop:=b=z∨b=TO∨b=i1∨b=i2
abbrev uf (S:Addr)(xs ys:Array Value)(j:Nat)(v:Value)(h:Heap):Prop:=fq fun a x y=>v = .ref a/\S<a/\xs[j]? = some x/\ys[j]? = some y/\IsPair h a x y
abbrev xA (u v:Value):Prop:=∃a b:Addr,u = .ref a/\v = .ref b/\a<b
theorem wN {prog:Program}{w:World}{A:Around}{z TI TO i1 i2 l1 l2 S:Addr}{xs ys:Array Value}(hh:A.handled=none)(D:ZipApart z TI TO i1 i2 l1 l2)(b1:z<S)(b2:TI<S)(b3:TO<S)(b4:i1<S)(b5:i2<S)(b6:l1<S)(b7:l2<S):
  xa prog w A z S "zip" (yk z TO i1 i2) (min xs.size ys.size) (uf S xs ys) xA (qT z TI TO i1 i2 l1 l2 S xs ys) where
 sfp:=fun q=>by
  rcases q with q|q|q|q<;>(rw[q] at b1 b3 b4 b5;first|exact absurd b1 (Ya _)|exact absurd b3 (Ya _)|exact absurd b4 (Ya _)|exact absurd b5 (Ya _))
 ne:=Jz b1
 ty:=fun i h st=>by
  rcases st.zp with q|⟨_,a,f,oa,q,_⟩
  ·exact⟨_,q,rfl⟩
  ·exact⟨_,q,rfl⟩
 self:=fun s Q E st q=>by
  rcases st.zp with r|⟨r,_⟩
  ·exact wpAny_pyIter_zip r q
  ·exact absurd r (Ya _)
 item:=fun i s Q E hi st hS q=>by
  obtain⟨ti,⟨a,b,to⟩,it1,it2,a1,a2,zp⟩:=st
  have hx:xs[i]? = some (xs[i]'(by omega)):=Ub (by omega)
  have hy:ys[i]? = some (ys[i]'(by omega)):=Ub (by omega)
  have old:∀j u,uf S xs ys j u s.heap->xA u (.ref s.heap.objs.size):=fun j u hz_=>ae.el hz_ _ fun a x y e _ _ _ p=>⟨a,_,e,rfl,Jk p⟩
  rcases zp with r|⟨CF,c,f,oc,r,oc',hc⟩
  ·refine wpAny_pyNext_zip_item D r ti to it1 it2 a1 a2 hx hy fun h' r1 r2 r3 r4 r5 r6 r7 =>?_
   have kp:Keeps s.heap h' (yk z TO i1 i2):=fun b o nb e=>r7 b o (fun z=>nb (.inl z)) (fun z=>nb (.inr (.inl z))) (fun z=>nb (.inr (.inr (.inl z)))) (fun z=>nb (.inr (.inr (.inr z)))) e
   refine q _ h' s.toks kp ⟨r7 _ _ D.TIz D.TITO D.TIi1 D.TIi2 ti,⟨_,_,r2⟩,r3,r4,a1.at fun o e=>r7 _ _ D.l1z D.l1TO D.l1i1 D.l1i2 e,a2.at fun o e=>r7 _ _ D.l2z D.l2TO D.l2i1 D.l2i2 e,.inr ⟨Nat.succ_pos _,_,_,_,r1,r5,hS⟩⟩ ⟨_,_,_,rfl,hS,hx,hy,r5⟩ old
  ·have ne:∀{b:Addr},b<S->c≠b:=fun hb=>Yk (Nat.lt_trans hb hc)
   refine nY D r oc' ti it1 it2 a1 a2 hx hy fun h' r1 r2 r3 r4 r5 =>?_
   have kp:Keeps s.heap h' (yk z TO i1 i2):=fun b o nb e=>r5 b o (fun z=>z.elim (fun z=>nb (.inl z)) fun z=>nb (.inr (.inr z))) e
   refine q _ h' s.toks kp ⟨r5 _ _ (fun z=>z.elim D.TIz fun z=>z.elim D.TIi1 D.TIi2) ti,⟨_,_,r5 _ _ (fun z=>z.elim D.TOz fun z=>z.elim D.TOi1 D.TOi2) to⟩,r2,r3,a1.at fun o e=>r5 _ _ (fun z=>z.elim D.l1z fun z=>z.elim D.l1i1 D.l1i2) e,a2.at fun o e=>r5 _ _ (fun z=>z.elim D.l2z fun z=>z.elim D.l2i1 D.l2i2) e,
    .inr ⟨Nat.succ_pos _,_,_,_,r1,r5 _ _ (fun z=>z.elim (ne b1) fun z=>z.elim (ne b4) (ne b5)) oc',hc⟩⟩ ⟨_,_,_,rfl,hS,hx,hy,r4⟩ old
 stop:=fun s Q E st hS q=>by
  obtain⟨ti,⟨a,b,to⟩,it1,it2,a1,a2,zp⟩:=st
  have he:xs[min xs.size ys.size]? = none∨ys[min xs.size ys.size]? = none:=by
   rcases Nat.le_total xs.size ys.size with h|h
   ·exact .inl (Yd (by omega))
   ·exact .inr (Yd (by omega))
  rcases zp with r|⟨CF,c,f,oc,r,oc',hc⟩
  ·exact wpAny_pyNext_zip_end hh D r ti to it1 it2 a1 a2 he fun h' k=>q h' s.toks fun b o nb e=>k b o (fun z=>nb (.inl z)) (fun z=>nb (.inr (.inl z))) (fun z=>nb (.inr (.inr (.inl z)))) (fun z=>nb (.inr (.inr (.inr z)))) e
  ·exact nv hh D r oc' ti it1 it2 a1 a2 he fun h' k=>q h' s.toks fun b o nb e=>k b o (fun z=>z.elim (fun z=>nb (.inl z)) fun z=>nb (.inr (.inr z))) e
 keepS:=fun i h h' st k=>by
  obtain⟨ti,⟨a,b,to⟩,it1,it2,a1,a2,zp⟩:=st
  refine⟨k _ _ (Jz b2) ti,⟨a,b,k _ _ (Jz b3) to⟩,it1.at fun o e=>k _ o (Jz b4) e,it2.at fun o e=>k _ o (Jz b5) e,a1.at fun o e=>k _ o (Jz b6) e,a2.at fun o e=>k _ o (Jz b7) e,?_⟩
  rcases zp with r|⟨CF,c,f,oc,r,oc',hc⟩
  ·exact .inl (k _ _ (Jz b1) r)
  ·exact .inr ⟨CF,c,f,oc,k _ _ (Jz b1) r,k _ _ (Yk hc) oc',hc⟩
 keepP:=fun j v h h' ⟨a,x,y,e,ha,h1,h2,p⟩ k=>by
  have ne:∀{b:Addr},b<S->a≠b:=fun hb=>Yk (Nat.lt_trans hb ha)
  exact⟨a,x,y,e,ha,h1,h2,k _ _ (fun z=>z.elim (fun z=>z.elim (ne b1) fun z=>z.elim (ne b3) fun z=>z.elim (ne b4) (ne b5)) (Yk ha)) p⟩
 nolen:=by rw[typeLookup_type,builtinLookup_eq_fast];kernel_rfl
 nohint:=by rw[typeLookup_type,builtinLookup_eq_fast];kernel_rfl
 nl:=by decide
 nt:=by decide
theorem Inv.pU {X:Cx}{pins:List (Addr×Obj)}{σ:St}:∀(as:List Addr) (ps:List (List V)) {H:Hp} {s:Shared},Inv X pins σ H s->as.Nodup->as.length=ps.length->(∀a∈as,d6 X pins H a/\X.s₀.heap.objs.size<=a) ->
  (∀(j:Nat) a p,as[j]? = some a->ps[j]? = some p->p.length<=sizeLine/\∃az:List Value,Vals p az/\IsTup s.heap a az.toArray) ->
  ∃H',Inv X pins σ H' s/\au H H'/\(∀b,b∉as->H' b=H b)/\∀(j:Nat) a p,as[j]? = some a->ps[j]? = some p->H' a=some (.tup p)
 | [],ps,H,s,I,_,_,_,_=>⟨H,I,au.refl H,fun _ _=>rfl,fun j a p h _=>by simp at h⟩
 | a::as,[],H,s,I,_,hl,_,_=>by simp at hl
 | a::as,p::ps,H,s,I,nd,hl,hf,ho=>by
  obtain⟨na,v8⟩:=U2.mp nd
  obtain⟨fa,sa⟩:=hf a Js
  obtain⟨hz,az,rv,ht⟩:=ho 0 a p rfl rfl
  have I1:=I.adopt (T:=a) (o := .tup p) fa sa ⟨hz,az,rv,ht⟩
  obtain⟨H',I',sm,same,all⟩:=Inv.pU as ps I1 v8 (by simpa using hl) (fun b hb=>by
   obtain⟨fb,sb⟩:=hf b (Jq _ hb)
   exact⟨⟨by rw[aj (fun(e:b=a)=>na (by rw[<-e];exact hb))];exact fb.1,fb.2⟩,sb⟩) (fun j b q h1 h2=>ho (j+1) b q h1 h2)
  refine⟨H',I',fun b o e=>sm b o (by rw[aj (ai e fa.1)];exact e),fun b hb =>?_,fun j b q h1 h2 =>?_⟩
  ·rw[same b fun z=>hb (Jq _ z),aj (fun(z:b=a)=>hb (by rw[z];exact Js))]
  ·cases j with
   | zero=>
    cases h1;cases h2
    rw[same a na];exact ar
   | succ j=>exact all j b q h1 h2
theorem uk:∀{l:List Value},(∀v∈l,∃a:Addr,v = .ref a)->∃as:List Addr,l=as.map Value.ref
 | [],_=>⟨[],rfl⟩
 | v::r,h=>by
  obtain⟨a,rfl⟩:=h v Js
  obtain⟨as,rfl⟩:=uk fun u hu=>h u (Jq _ hu)
  exact⟨a::as,rfl⟩
section
variable {X:Cx}
def QQ (K:Jc)(ta:TA):TE:=fun σ H Q=>ta σ H fun vs H1=>lU fun l1 l2 xs ys=>vs=[.ref l1,.ref l2]/\aD K H1 l1 xs/\aD K H1 l2 ys /\
 ∀H' p (as:List Addr),au H1 H'->H1 p=none->H' p=some (.lst (as.map V.ref))->as.length=min xs.length ys.length ->
  (∀(j:Nat) a x y,as[j]? = some a->xs[j]? = some x->ys[j]? = some y->H1 a=none/\H' a=some (.tup [x,y]))->Q (.ref p) H'
theorem mV {xs ys:List V}(j:Nat)(x y:V)(hx:xs[j]? = some x)(hy:ys[j]? = some y):((xs.zip ys).map fun q=>[q.1,q.2])[j]? = some [x,y]:=by
 rw[Jl,(List.getElem?_zip_eq_some (z:=(x,y))).mpr ⟨hx,hy⟩]
 rfl
theorem rT {a b:Expr}{ta:TA}{p p2 pos AI:Pos}(hc:X.calm=true)(OX:Gl X "list")(OD:X.mg "list" = none)(QI:Gl X "zip")(OQ:X.mg "zip" = none)(ha:PA X [a,b] ta)
  (Cy:bootBuiltins "list" = some (.type "list"):=by first|rfl|decide) (Ri:bootBuiltins "zip" = some (.type "zip"):=by first|rfl|decide)
  (HS:starEach [.Call (.Name "zip" p2) [a,b] [] AI] X.env=[(false,eval (.Call (.Name "zip" p2) [a,b] [] AI) X.env)]:=by rfl)
  (hs:starEach [a,b] X.env=[(false,eval a X.env),(false,eval b X.env)]:=by rfl) (vZ:starEach [b] X.env=[(false,eval b X.env)]:=by rfl) :
  PE X (.Call (.Name "list" p) [.Call (.Name "zip" p2) [a,b] [] AI] [] pos) (QQ X.K ta):=by
 intro pins s σ H Q I h
 refine wpAny_Call_Name_kw (fW I OX OD Cy ?_)
 refine PyProof.Rows.callWith_type1 ?_ HS rfl
 rw[HS]
 show wpAny _ _ (spliced ((false,eval (.Call (.Name "zip" p2) [a,b] [] AI) X.env)::[])) _ _ _
 refine Calls.spliced_cons ?_
 refine Call_ (fW I QI OQ Ri (PyProof.Rows.callWith_type1 (aZ (ha s σ H _ I h) fun us s1 hz_=>ae.el hz_ _ fun vs H1 I1 r1 q1 =>?_) (by rw[hs,vZ]) (by rw[vZ];rfl)))
 obtain⟨l1,l2,xs,ys,e,q1,q2,q⟩:=q1
 subst e
 obtain⟨u,w',rfl,r1,r2⟩:=vals2 r1
 cases r1;cases r2
 obtain⟨its1,rv1,p1,hz1⟩:=I1.list q1
 refine ae.el (I1.list q2) _ ?_
 rintro its2 rv2 p2 hz2
 have e1:=rv1.length
 have e2:=rv2.length
 have a1:l1<s1.heap.objs.size:=by obtain⟨_,e,_⟩:=p1.isList;exact Jk e
 have a2:l2<s1.heap.objs.size:=by obtain⟨_,e,_⟩:=p2.isList;exact Jk e
 refine call_zip_2 p1.isList p2.isList fun h' hz vY hTO hi1 vW hsz hk =>?_
 refine Calls.spliced_nil ?_
 have Ey:s1.heap.objs.size<=h'.objs.size:=by rw[hsz];exact Um _ _
 have fR:∀n,n<5->s1.heap.objs.size+n<h'.objs.size:=fun n hn=>by rw[hsz];exact Nat.add_lt_add_left hn _
 have zs:∀o,qT (s1.heap.objs.size+4) (s1.heap.objs.size+2) (s1.heap.objs.size+3) s1.heap.objs.size (s1.heap.objs.size+1) l1 l2 h'.objs.size its1.toArray its2.toArray 0 (h'.push o):=fun o=>
  ⟨Jb _ vY,⟨_,_,Jb _ hTO⟩,hi1.at fun o e=>Jb _ e,vW.at fun o e=>Jb _ e,(p1.isList.at fun o e=>hk _ o e).push _,(p2.isList.at fun o e=>hk _ o e).push _,.inl (Jb _ hz)⟩
 refine uH (s:={ s1 with heap:=h' }) (wN (I.ok.hd hc) (zipApart_new a1 a2) (fR 4 (by decide)) (fR 2 (by decide)) (fR 3 (by decide)) (fR 0 (by decide)) (fR 1 (by decide)) (Jv a1 Ey) (Jv a2 Ey)) (by simp;omega) zs fun h2 tk acc c hk2 G =>?_
 obtain⟨hS2,hsz2,hpw,eg⟩:=G
 obtain⟨as,nR⟩:=uk (l:=acc.toList) fun v hv=>by
  obtain⟨j,hj⟩:=U5.mp hv
  obtain⟨a,_,_,e,_⟩:=eg j v (by simpa using hj)
  exact⟨a,e⟩
 have xW:∀(j:Nat) a,as[j]? = some a->∃x y,h'.objs.size<a/\its1.toArray[j]? = some x/\its2.toArray[j]? = some y/\IsPair h2 a x y:=fun j a h=>by
  obtain⟨a',x,y,e,g⟩:=eg j (.ref a) (by
   have:acc.toList[j]? = some (.ref a):=by rw[nR,Jl,h];rfl
   simpa using this)
  cases e
  exact⟨x,y,g⟩
 have above:∀a∈as,h'.objs.size<a:=fun a ha=>by
  obtain⟨j,hj⟩:=U5.mp ha
  obtain⟨_,_,g,_⟩:=xW j a hj
  exact g
 have old:∀b o,s1.heap.get? b=some o->h2.get? b=some o:=fun b o e=>by
  have hb:=Jk e
  have gt:∀n,b≠s1.heap.objs.size+n:=fun n=>Jz (Jv hb (Um _ _))
  exact hk2 b o (fun z=>z.elim (gt 4) fun z=>z.elim (gt 3) fun z=>z.elim (gt 0) (gt 1)) (hk b o e)
 have I2:Inv X pins σ H1 { s1 with heap:=h2,toks:=tk }:=I1.kept old
 have DK:∀a∈as,s1.heap.objs.size<=a:=fun a ha=>Uy (Ue Ey (above a ha))
 have nd:as.Nodup:=by
  rw[nR,List.pairwise_map] at hpw
  exact hpw.imp fun hz_=>ae.el hz_ _ fun a b e1 e2 h=>by cases e1;cases e2;exact Jz h
 have jd:∀a,s1.heap.objs.size<=a->d6 X pins H1 a/\X.s₀.heap.objs.size<=a:=fun a ha=>⟨I1.jd ha (I1.aR.fresh ha),Ju I1.sz ha⟩
 have D9:as.length=min xs.length ys.length:=by
  have z:acc.toList.length=as.length:=by rw[nR,Ja]
  simp at z hsz2
  omega
 obtain⟨H',I',sm,same,all⟩:=I2.pU as ((xs.zip ys).map fun q=>[q.1,q.2]) nd (by rw[Ja,List.length_zip];omega) (fun a ha=>jd a (DK a ha)) (fun j a pp h1 h2'=>by
  refine ae.el (xW j a h1) _ ?_
  rintro x y _ g1 g2 g3
  refine ae.el (ik rv1 g1) _ ?_
  rintro vx gx rx
  refine ae.el (ik rv2 g2) _ ?_
  rintro vy gy ry
  have z:=mV j vx vy gx gy
  rw[z] at h2';cases h2'
  exact⟨by show 2<=sizeLine;decide,[x,y],.cons rx (.cons ry .nil),⟨_,g3,rfl,_,rfl⟩⟩)
 have IQ:h'.objs.size∉as:=fun hm=>Ya _ (above _ hm)
 have Eo:H1 h'.objs.size=none:=I1.aR.fresh Ey
 obtain⟨fS,sS⟩:=jd h'.objs.size Ey
 have Pe:d6 X pins H' h'.objs.size:=⟨by rw[same _ IQ];exact Eo,fS.2⟩
 have I3:=I'.adopt (T:=h'.objs.size) (o := .lst (as.map V.ref)) Pe sS ⟨by rw[Ja];omega,acc.toList,c,by
  rw[nR]
  clear hS2 nR all same I' sm DK nd D9 IQ above xW
  induction as with
  | nil=>exact .nil
  | cons a r ih=>exact .cons rfl ih,by simpa using hS2⟩
 refine⟨.ref h'.objs.size,_,I3,rfl,q _ _ as (fun b o e =>?_) Eo ar D9 fun j a x y h1 h2' h3'=>⟨(jd a (DK a (Y4 h1))).1.1,?_⟩⟩
 ·rw[aj (ai e Eo)];exact sm b o e
 ·rw[aj (fun(z:a=h'.objs.size)=>IQ (by rw[<-z];exact Y4 h1))]
  exact all j a [x,y] h1 (mV j x y h2' h3')
end
structure dM (H:Hp)(p:Addr)(o:HO)(H':Hp):Prop where
 nn:H p=none
 eq:H'=upd H p o
theorem dM.at {H H':Hp}{p:Addr}{o:HO}(n:dM H p o H'):H' p=some o:=by rw[n.eq];exact ar
theorem dM.ne {H H':Hp}{p a:Addr}{o:HO}(n:dM H p o H')(h:a≠p):H' a=H a:=by rw[n.eq];exact aj h
theorem dM.same {H H':Hp}{p:Addr}{o:HO}(n:dM H p o H'):au H H':=fun a u e=>by rw[n.ne (ai e n.nn)];exact e
theorem dM.back {H H':Hp}{p a:Addr}{o:HO}(n:dM H p o H')(h:H' a=none):H a=none:=by
 cases e:H a with
 | none=>rfl
 | some u=>rw[n.same a u e] at h;cases h
structure jT (H:Hp)(p:Addr)(o:HO)(H':Hp):Prop where
 eq:H'=upd H p o
theorem jT.at {H H':Hp}{p:Addr}{o:HO}(n:jT H p o H'):H' p=some o:=by rw[n.eq];exact ar
theorem jT.ne {H H':Hp}{p a:Addr}{o:HO}(n:jT H p o H')(h:a≠p):H' a=H a:=by rw[n.eq];exact aj h
theorem kf {H:Hp}{o:HO}{F:Addr->Hp->Prop}:(∀p,H p=none->F p (upd H p o)) = ∀p H',dM H p o H'->F p H':=
 propext ⟨fun h p H' n=>by rw[n.eq];exact h p n.nn,fun h p hp=>h p _ ⟨hp,rfl⟩⟩
theorem zW {H:Hp}{p:Addr}{o:HO}{F:Hp->Prop}:F (upd H p o) = ∀H',jT H p o H'->F H':=
 propext ⟨fun h H' n=>by rw[n.eq];exact h,fun h=>h _ ⟨rfl⟩⟩
section
variable {X:Cx}{pos:Pos}{es:List Expr}{t:TA}
def Bt (t:TA):TE:=fun σ H Q=>t σ H fun xs H1=>xs.length<=sizeLine/\∀p H',dM H1 p (.tup xs) H'->Q (.ref p) H'
def yo (t:TA):TE:=fun σ H Q=>t σ H fun xs H1=>xs.length<=sizeLine/\∀p H',dM H1 p (.lst xs) H'->Q (.ref p) H'
theorem fA {x1}(h:PA X es t):PE X (.Tuple es x1 pos) (Bt t):=by
 have e:Bt t=Hs t:=by
  funext σ H Q
  show t σ H _=t σ H _
  congr 1;funext xs H1
  exact congrArg (_ /\ ·) (kf (F:=fun p H'=>Q (.ref p) H')).symm
 rw[e];exact Dk h
theorem eS (h:PA X es t):PE X (.List es pos) (yo t):=by
 have e:yo t=Hu t:=by
  funext σ H Q
  show t σ H _=t σ H _
  congr 1;funext xs H1
  exact congrArg (_ /\ ·) (kf (F:=fun p H'=>Q (.ref p) H')).symm
 rw[e];exact CG h
def sG (pY:List (TE×TE)):TE:=fun σ H Q=>∀p H0,dM H p (.dK []) H0->lK pY σ H0 fun ps H2=>H2 p=some (.dK [])/\∃kvs:List (Key×V),ps=kvs.map (fun kv=>(kV kv.1,kv.2))/\kvs.length<=15/\∀H3,jT H2 p (.dK (dh [] kvs)) H3->Q (.ref p) H3
theorem Eu {keys:List (Option Expr)}{values:List Expr}{pY:List (TE×TE)}(h:FT X pos keys values pY)(eg:keys.all (·.isSome)=true)(hl:keys.length=values.length)(h0:keys≠[])
  (M8:keys.length<=15):PE X (.Dict keys values pos) (sG pY):=by
 have e:sG pY=xu pY:=by
  funext σ H Q
  unfold sG xu
  rw[kf (F:=fun p H0=>lK pY σ H0 fun ps H2=>H2 p=some (.dK [])/\∃kvs:List (Key×V),ps=kvs.map (fun kv=>(kV kv.1,kv.2))/\kvs.length<=15/\Q (.ref p) (upd H2 p (.dK (dh [] kvs))))]
  simp only[<-zW (F:=fun H3=>Q (.ref _) H3)]
 rw[e];exact A0 h eg hl h0 M8
end
section
variable {X:Cx}(K:Jc)
def He (K:Jc):V->Option Int->Option Int->Hp->VK->Prop:=fun x lo hi H Q=>(bO fun a xs=>x = .ref a/\aD K H a xs/\∀p H',dM H p (.lst (qa xs lo hi)) H'->Q (.ref p) H')∨(∃z,x = .str z/\z.length<=sizeLine/\Q (.str (Txt.slice z lo hi)) H)
theorem Ai (hK:X.K=K:=by rfl):y8 X (He K):=by
 subst hK
 intro pins s σ H x v vl vu lo hi sl Q I rx hs pl pu q
 refine E8 s σ H x v vl vu lo hi sl Q I rx hs pl pu ?_
 rcases q with ⟨a,xs,e,h,q⟩|q
 ·exact .inl ⟨a,xs,e,h,fun p hp=>q p _ ⟨hp,rfl⟩⟩
 ·exact .inr q
theorem BH (hK:X.K=K:=by rfl):bU X (.type "list") (fun xs H Q=>∃p ys,xs=[.ref p]/\(aD K H p ys∨fw K H p ys)/\∀l H',dM H l (.lst ys) H'->Q (.ref l) H'):=by
 subst hK
 intro pins s σ H xs us Q I r h
 refine ae.el (h) _ ?_
 rintro p ys e h q
 exact nF s σ H xs us Q I r ⟨p,ys,e,h,fun l hl=>q l _ ⟨hl,rfl⟩⟩
end
section
variable {X:Cx}
def Hy:R2:=fun x y H Q=>(bO fun i j=>x = .int i/\y = .int j/\Q (.int (i+j)) H)∨(∃i j,x = .str i/\y = .str j/\i.length+j.length<=sizeLine/\Q (.str (i++j)) H) ∨
 lU fun l b xs zs=>x = .ref l/\y = .ref b/\H l=some (.lst xs)/\H b=some (.lst zs)/\xs.length+zs.length<=sizeLine/\∀p H',dM H p (.lst (xs++zs)) H'->Q (.ref p) H'
theorem fz:fj X (binaryOp .Add) Hy:=by
 intro pins s σ H x y v u Q I rx ry h
 refine FG s σ H x y v u Q I rx ry ?_
 rcases h with h|h|⟨l,b,xs,zs,e1,e2,h1,h2,h3,q⟩
 ·exact .inl h
 ·exact .inr (.inl h)
 ·exact .inr (.inr ⟨l,b,xs,zs,e1,e2,h1,h2,h3,fun p hp=>q p _ ⟨hp,rfl⟩⟩)
def Bs:R2:=fun x y H Q=>(bO fun i j=>x = .int i/\y = .int j/\rq i j/\Q (.int (i*j)) H) ∨
 fq fun l k xs=>x = .ref l/\y = .int k/\H l=some (.lst xs) /\ -(2^63)<=k/\k<2^63/\xs.length*k.toNat<=sizeLine/\∀p H',dM H p (.lst (Jp k.toNat xs).flatten) H'->Q (.ref p) H'
theorem nD:fj X (binaryOp .Mult) Bs:=by
 intro pins s σ H x y v u Q I rx ry h
 refine G2 s σ H x y v u Q I rx ry ?_
 rcases h with h|⟨l,k,xs,e1,e2,h1,h2,h3,h4,q⟩
 ·exact .inl h
 ·exact .inr ⟨l,k,xs,e1,e2,h1,h2,h3,h4,fun p hp=>q p _ ⟨hp,rfl⟩⟩
theorem zN:bU X (.builtin "divmod") (fun xs H Q=>∃i j,xs=[.int i,.int j]/\Dr i j/\∀p H',dM H p (.tup [.int (i / j),.int (i%j)]) H'->Q (.ref p) H'):=by
 intro pins s σ H xs us Q I r h
 refine ae.el (h) _ ?_
 rintro i j e c q
 exact qB s σ H xs us Q I r ⟨i,j,e,c,fun p hp=>q p _ ⟨hp,rfl⟩⟩
theorem og:yf X "list.append" (fun x vs H Q=>∃l xs y,x = .ref l/\vs=[y]/\H l=some (.lst xs)/\xs.length<sizeLine/\∀H',jT H l (.lst (xs++[y])) H'->Q .non H'):=by
 intro pins s σ H x xs v us Q I rx rv h
 refine ae.el (h) _ ?_
 rintro l ys y e1 e2 h1 h2 q
 exact vD s σ H x xs v us Q I rx rv ⟨l,ys,y,e1,e2,h1,h2,q _ ⟨rfl⟩⟩
theorem jh:yf X "list.extend" (fun x vs H Q=>∃l b xs zs,x = .ref l/\vs=[.ref b]/\H l=some (.lst xs)/\H b=some (.lst zs)/\xs.length+zs.length<=sizeLine/\∀H',jT H l (.lst (xs++zs)) H'->Q .non H'):=by
 intro pins s σ H x xs v us Q I rx rv h
 refine ae.el (h) _ ?_
 rintro l b ys zs e1 e2 h1 h2 h3 q
 exact vn s σ H x xs v us Q I rx rv ⟨l,b,ys,zs,e1,e2,h1,h2,h3,q _ ⟨rfl⟩⟩
theorem Ep:yf X "list.pop" (fun x vs H Q=>∃l xs y,x = .ref l/\vs=[]/\H l=some (.lst xs)/\xs[xs.length-1]? = some y/\∀H',jT H l (.lst xs.dropLast) H'->Q y H'):=by
 intro pins s σ H x xs v us Q I rx rv h
 refine ae.el (h) _ ?_
 rintro l ys y e1 e2 h1 h2 q
 exact Dt s σ H x xs v us Q I rx rv ⟨l,ys,y,e1,e2,h1,h2,q _ ⟨rfl⟩⟩
theorem CO:yf X "list.pop" (fun x vs H Q=>∃l xs i y,x = .ref l/\vs=[.int i]/\H l=some (.lst xs)/\0<=i/\i<2^63/\xs[i.toNat]? = some y/\∀H',jT H l (.lst (xs.eraseIdx i.toNat)) H'->Q y H'):=by
 intro pins s σ H x xs v us Q I rx rv h
 refine ae.el (h) _ ?_
 rintro l ys i y e1 e2 h1 h2 h3 h4 q
 refine wF s σ H x xs v us Q I rx rv ⟨l,ys,i,i.toNat,y,e1,e2,h1,by omega,h3,?_,h4,q _ ⟨rfl⟩⟩
 have hl:=(Jy.mp h4).1
 have q:rO ys ((i.toNat:Nat):Int)=some y:=oJ h4
 have ei:((i.toNat:Nat):Int)=i:=by omega +splitMinMax
 rw[ei] at q
 obtain⟨j,hj,Kh,_⟩:=j6 q
 have:yA ys.length i=some i.toNat:=by unfold yA;rw[if_pos h2,if_pos (by omega)]
 exact(nJ this).1
end
theorem eR {J:It}{n:Nat}{js:List Nat}{g:TG}{tc:TT}{te:TE}{σ:St}{H1:Hp}{Q:V->Hp->Prop}(N:Nat)(Pv:Nat->List V->Hp->Prop)(h0:Pv 0 [] H1)
  (go:∀i ys H (Nx:List V->Hp->Prop),i<N->Pv i ys H->(∀ys' H',Pv (i+1) ys' H'->Nx ys' H')->J.go i H/\ys.length<sizeLine /\
   ∀x H',J.yld i H x H'->g x (Jp n none++cO σ js) H' fun σ2 H2=>tc σ2 H2 fun b H3=>if b=true then te σ2 H3 fun y H4=>Nx (ys++[y]) H4 else Nx ys H3)
  (stop:∀ys H,Pv N ys H->J.stop N H/\∀p H',dM H p (.lst ys) H'->Q (.ref p) H'):tT J n js g tc te σ H1 fun ys H2=>∀p,H2 p=none->Q (.ref p) (upd H2 p (.lst ys)):=
 aV N Pv h0 go fun ys H h=>⟨(stop ys H h).1,fun p hp=>(stop ys H h).2 p _ ⟨hp,rfl⟩⟩
theorem m7 {α:Type}{xs:List α}{i:Int}{v: α}(h0:0<=i)(h:xs[i.toNat]? = some v):rO xs i=some v:=by
 have q:=oJ h
 have e:((i.toNat:Nat):Int)=i:=by omega
 rw[e] at q
 exact q
noncomputable def vS:PyData->String
 | .none => "NoneType"
 | .bool _ => "bool"
 | .int _ => "int"
 | .str _ => "str"
 | .list _ => "list"
 | .tuple _ => "tuple"
 | .dict _ => "dict"
noncomputable def GV (d:PyData)(T:String):Bool:=vS d==T||(vS d == "bool" && T == "int")
theorem B7 (K:Jc)(d:PyData):Yw K (.type (vS d)) (.type "bool")=some (GV d "bool")/\Yw K (.type (vS d)) (.type "int")=some (GV d "int")/\Yw K (.type (vS d)) (.type "str")=some (GV d "str") /\
  Yw K (.type (vS d)) (.type "list")=some (GV d "list")/\Yw K (.type (vS d)) (.type "tuple")=some (GV d "tuple"):=by
 cases d<;>exact⟨rfl,rfl,rfl,rfl,rfl⟩
section
variable {X:Cx}
theorem tu {pins:List (Addr×Obj)}{σ:St}{H:Hp}{s:Shared}{x:V}{u:Value}{d:PyData}(I:Inv X pins σ H s)(rx:RelV x u)(h:Den X.K H d x):∃HH:Heap->Prop,PySem.W.KitX X.K u (.type (vS d)) HH/\HH s.heap/\u ≠ .builtin "__main__.__loader__#opaque":=by
 cases d with
 | none=>unfold Den at h;subst h;cases rx;exact⟨_,PySem.W.kitx_none,True.intro,fun z=>nomatch z⟩
 | bool b=>unfold Den at h;subst h;cases rx;exact⟨_,PySem.W.kitx_bool,True.intro,fun z=>nomatch z⟩
 | int i=>unfold Den at h;subst h;obtain⟨t,rfl⟩:=rx;exact⟨_,PySem.W.kitx_int,True.intro,fun z=>nomatch z⟩
 | str y=>unfold Den at h;subst h;obtain⟨t,rfl⟩:=rx;exact⟨_,PySem.W.kitx_str,True.intro,fun z=>nomatch z⟩
 | list ds=>
  unfold Den at h
  refine ae.el (h) _ ?_
  rintro a vs rfl h2 _
  cases rx
  obtain⟨az,_,⟨o,n,e1,e2,_⟩,_⟩:=I.list h2
  exact⟨_,PySem.W.kitx_list,⟨o,e1,e2⟩,fun z=>nomatch z⟩
 | tuple ds=>
  unfold Den at h
  refine ae.el (h) _ ?_
  rintro a vs rfl h2 _
  cases rx
  obtain⟨az,_,⟨o,e1,e2,_⟩,_⟩:=I.tuple h2
  exact⟨_,PySem.W.kitx_tuple,⟨o,e1,e2⟩,fun z=>nomatch z⟩
 | dict _=>unfold Den at h;exact h.elim
theorem vI:bU X (.builtin "isinstance") (fun xs H Q=>∃(x:V) (T:String) (d:PyData) (b:Bool),xs=[x,.ty T]/\Den X.K H d x/\Yw X.K (.type (vS d)) (.type T)=some b/\Q (.bl b) H):=by
 intro pins s σ H xs us Q I r h
 refine ae.el (h) _ ?_
 rintro x T d b rfl hd e q
 refine ae.el (vals2 r) _ ?_
 rintro u w' rfl r1 r2
 cases r2
 refine ae.el (tu I r1 hd) _ ?_
 rintro HH Z hh hx
 exact Yf Z I.mH hh e hx fun tk=>⟨.bl b,H,I.tok _,rfl,q⟩
theorem rf:bU X (.builtin "isinstance") (fun xs H Q=>∃(x:V) (p:Addr) (Ts:List String) (d:PyData) (b:Bool),xs=[x,.ref p]/\H p=some (.tup (Ts.map V.ty))/\Den X.K H d x/\PySem.W.kitAny X.K (.type (vS d)) (Ts.map Value.type)=some b/\Q (.bl b) H):=by
 intro pins s σ H xs us Q I r h
 refine ae.el (h) _ ?_
 rintro x p Ts d b rfl hp hd e q
 refine ae.el (vals2 r) _ ?_
 rintro u w' rfl r1 r2
 cases r2
 refine ae.el (tu I r1 hd) _ ?_
 rintro HH Z hh hx
 obtain⟨_,az,rv,o,h1,h2,n,h3⟩:=(show bq X.prog X.w H s.heap p (.tup (Ts.map V.ty)) from I.aR p _ hp)
 have ei:az=Ts.map Value.type:=by
  clear e hp h3 h2 h1
  rename_i hz
  clear hz
  induction Ts generalizing az with
  | nil=>cases rv;rfl
  | cons T Ts ih=>
   cases rv with
   | cons q1 q2=>cases q1;rw[ih _ q2];rfl
 subst ei
 obtain⟨cls,dd,data,sl⟩:=o
 simp only at h2 h3
 subst h2 h3
 exact PySem.W.kia_tup Z I.mH hh h1 e hx fun tk=>⟨.bl b,H,I.tok _,rfl,q⟩
def K0 (K:Jc):List V->Hp->VK->Prop:=fun xs H Q=>(∃(x:V) (T:String) (d:PyData) (b:Bool),xs=[x,.ty T]/\Den K H d x/\Yw K (.type (vS d)) (.type T)=some b/\Q (.bl b) H) ∨
 ∃x T t b,xs=[x,.ty T]/\iZ K H x t/\Yw K t (.type T)=some b/\Q (.bl b) H
theorem iR (K:Jc)(hK:X.K=K:=by rfl):bU X (.builtin "isinstance") (K0 K):=by subst hK;exact vI.or xx
def EU (K:Jc):List V->Hp->VK->Prop:=fun xs H Q=>∃(x:V) (p:Addr) (Ts:List String) (d:PyData) (b:Bool),xs=[x,.ref p]/\H p=some (.tup (Ts.map V.ty))/\Den K H d x/\PySem.W.kitAny K (.type (vS d)) (Ts.map Value.type)=some b/\Q (.bl b) H
theorem EC (K:Jc)(hK:X.K=K:=by rfl):bU X (.builtin "isinstance") (EU K):=by subst hK;exact rf
end
noncomputable def Nh (k:Bool):String:=if k then "tuple" else "list"
noncomputable def yu (k:Bool):String:=if k then "tuple_iterator" else "list_iterator"
def dq (k:Bool)(h:Heap)(a:Addr)(az:Array Value):Prop:=∃o,h.get? a=some o/\o.cls = .type (Nh k)/\∃n,o.data = .seq az n
def fu (k:Bool)(h:Heap)(it a:Addr)(i:Nat):Prop:=∃o,h.get? it=some o/\o.cls = .type (yu k)/\o.data = .fields #[.ref a,.int i 0]
theorem dq.at {k:Bool}{h h':Heap}{a:Addr}{az:Array Value}(x:dq k h a az)(e:∀o,h.get? a=some o->h'.get? a=some o):dq k h' a az:=let ⟨o,ho,r⟩:=x; ⟨o,e _ ho,r⟩
theorem fu.at {k:Bool}{h h':Heap}{it a:Addr}{i:Nat}(x:fu k h it a i)(e:∀o,h.get? it=some o->h'.get? it=some o):fu k h' it a i:=let ⟨o,ho,r⟩:=x; ⟨o,e _ ho,r⟩
theorem dq.lt {k:Bool}{h:Heap}{a:Addr}{az:Array Value}(x:dq k h a az):a<h.objs.size:=let ⟨_,e,_⟩:=x;Jk e
theorem fu.lt {k:Bool}{h:Heap}{it a:Addr}{i:Nat}(x:fu k h it a i):it<h.objs.size:=let ⟨_,e,_⟩:=x;Jk e
section
variable {prog:Program}{w:World}{A:Around}{E:Value->Shared->Prop}{s:Shared}{k:Bool}{it a:Addr}{i:Nat}{az:Array Value}
theorem lH {x:Value}{Q:Value->Shared->Prop}(h1:fu k s.heap it a i)(h2:dq k s.heap a az)(hx:az[i]? = some x)
  (q:∀h',fu k h' it a (i+1)->U6 it s.heap h'->Q x { s with heap:=h' }):wpAny (model prog w) A (Builtin.SmallTypes.nextOf (.ref it)) Q E s:=by
 cases k with
 | false=>exact wpAny_nextOf_list_item h1 h2 hx q
 | true=>
  obtain⟨o,ho,hc,hd⟩:=h1
  obtain⟨ol,hol,_,nl,hdl⟩:=h2
  have hT:s.TypeIs (.ref it) "tuple_iterator":=⟨o,ho,hc⟩
  unfold Builtin.SmallTypes.nextOf
  refine wpAny_bind (wpAny_callSpecial?_slot (name:=Str.ofString "__next__") hT F.slot_tuple_iterator_next (wpAny_call_entry F.slot_tuple_iterator_next hT F.entry_tuple_iterator_next ?_ (F.args_tuple_iterator_next_1 _)))
  change wpAny _ _ (Bind.bind (field (.ref it) 0) _) _ _ s
  refine wpAny_bind (wpAny_field ho hd (x := .ref a) rfl ?_)
  rw[if_neg (by intro z;cases z)]
  refine wpAny_bind (wpAny_field ho hd (x := .int i 0) rfl (wpAny_bind (wpAny_seqItems hol hdl ?_)))
  simp only[Uz,hx]
  refine wpAny_bind (wpAny_setField ho hd (by simp) (wpAny_pure ⟨x,rfl,wpAny_pure (q _ ⟨_,Ur _ ho (Obj.isFreed_of_fields (Obj.data_mapFields hd _)),(Obj.cls_mapFields ..).trans hc,?_⟩ (U6.update ..))⟩))
  rw[Obj.data_mapFields hd]
  simp[rawInt]
theorem pf {Q:Value->Shared->Prop}(hh:A.handled=none)(h1:fu k s.heap it a i)(h2:dq k s.heap a az)(hx:az[i]? = none)
  (q:∀h' e,Heap.ExtBut it s.heap h'->(∃o,h'.get? e=some o/\o.cls = .type "StopIteration")->E (.ref e) { s with heap:=h' }):wpAny (model prog w) A (Builtin.SmallTypes.nextOf (.ref it)) Q E s:=by
 cases k with
 | false=>exact wpAny_nextOf_list_end hh h1 h2 hx q
 | true=>
  obtain⟨o,ho,hc,hd⟩:=h1
  obtain⟨ol,hol,_,nl,hdl⟩:=h2
  have hT:s.TypeIs (.ref it) "tuple_iterator":=⟨o,ho,hc⟩
  unfold Builtin.SmallTypes.nextOf
  refine wpAny_bind (wpAny_callSpecial?_slot (name:=Str.ofString "__next__") hT F.slot_tuple_iterator_next (wpAny_call_entry F.slot_tuple_iterator_next hT F.entry_tuple_iterator_next ?_ (F.args_tuple_iterator_next_1 _)))
  change wpAny _ _ (Bind.bind (field (.ref it) 0) _) _ _ s
  refine wpAny_bind (wpAny_field ho hd (x := .ref a) rfl ?_)
  rw[if_neg (by intro z;cases z)]
  refine wpAny_bind (wpAny_field ho hd (x := .int i 0) rfl (wpAny_bind (wpAny_seqItems hol hdl ?_)))
  simp only[Uz,hx]
  refine wpAny_bind (wpAny_rule (wpAny_bind (wpAny_setField ho hd (by simp) (wpAny_bind ?_))))
  simp only[newExc,newTuple]
  refine wpAny_bind (wpAny_newObj_type ?_ (by size_fits))
  refine wpAny_bind (m:=firstArgMember _ _) (wpAny_of_eq (a:=Value.none) (by first|rfl|(simp only[firstArgMember];rfl)) (wpAny_newObj_type ?_ (by size_fits)))
  simp only[raiseNew]
  refine wpAny_bind (wpAny_handled ?_)
  rw[show A.in1.handled=none from hh]
  exact wpAny_bind (wpAny_pure (wpAny_throw (q _ _ (((U6.update ..).extBut.push _).push _) ⟨_,Jo _ rfl,rfl⟩)))
end
structure pR (k1 k2:Bool)(z TI TO i1 i2 l1 l2:Addr)(i:Nat)(h:Heap):Prop where
 zp:IsZip h z TI TO .none
 ti:IsPair h TI (.ref i1) (.ref i2)
 to:∃a b,IsPair h TO a b
 it1:fu k1 h i1 l1 i
 it2:fu k2 h i2 l2 i
section
variable {prog:Program}{w:World}{A:Around}{E:Value->Shared->Prop}{s:Shared}{k1 k2:Bool}{z TI TO i1 i2 l1 l2:Addr}{i:Nat}{xs ys:Array Value}
abbrev C8 (z TO i1 i2:Addr)(b:Addr):Prop:=b=z∨b=TO∨b=i1∨b=i2
theorem uU {x y:Value}{Q:Option Value->Shared->Prop}(D:ZipApart z TI TO i1 i2 l1 l2)(st:pR k1 k2 z TI TO i1 i2 l1 l2 i s.heap)(tX:dq k1 s.heap l1 xs)(vK:dq k2 s.heap l2 ys)(hx:xs[i]? = some x)(hy:ys[i]? = some y)
  (q:∀h',IsZip h' z TI TO (rawInt s.heap.objs.size)->IsPair h' TO x y->fu k1 h' i1 l1 (i+1)->fu k2 h' i2 l2 (i+1)->IsPair h' s.heap.objs.size x y->Keeps s.heap h' (C8 z TO i1 i2)->Q (some (.ref s.heap.objs.size)) { s with heap:=h' }) :
  wpAny (model prog w) A (pyNext (.ref z)) Q E s:=by
 obtain⟨hz,vY,⟨a,b,hTO⟩,h1,h2⟩:=st
 have hT:s.TypeIs (.ref z) "zip":=⟨_,hz,rfl⟩
 unfold pyNext
 refine wpAny_bind (wpAny_attempt (wpAny_callSpecial?_slot (name:=Str.ofString "__next__") hT F.slot_zip_next (wpAny_call_entry F.slot_zip_next hT F.entry_zip_next ?_ (F.args_zip_next_1 _))))
 change wpAny _ _ (Bind.bind (field (.ref z) 2) _) _ _ _
 refine wpAny_bind (wpAny_field hz rfl (x := .bool false) rfl ?_)
 change wpAny _ _ (Bind.bind (field (.ref z) 3) _) _ _ _
 refine wpAny_bind (wpAny_field hz rfl (x := .ref TI) rfl (wpAny_bind (wpAny_seqItems vY rfl ?_)))
 change wpAny _ _ (Bind.bind (Builtin.SmallTypes.ownedTupleIsFree (.ref z)) _) _ _ _
 refine wpAny_bind ?_
 unfold Builtin.SmallTypes.ownedTupleIsFree
 refine wpAny_bind (wpAny_field hz rfl (x := .none) rfl (wpAny_pure ?_))
 simp only[if_true]
 refine wpAny_bind (wpAny_rule (wpAny_bind (wpAny_field hz rfl (x := .ref TO) rfl (wpAny_bind (wpAny_setField_rec hz (by simp) fun g1 z1 e1=>wpAny_bind ?_)))))
 simp only[List.zipIdx_cons,List.zipIdx_nil,Wi,List.forIn_nil]
 refine wpAny_bind (wpAny_bind (wpAny_onRaise ?_))
 change wpAny _ _ (Bind.bind (Builtin.SmallTypes.nextOf (.ref i1)) _) _ _ _
 refine wpAny_bind (lH (h1.at fun o e=>e1.extBut _ _ D.i1z e) (tX.at fun o e=>e1.extBut _ _ D.l1z e) hx fun g2 it1 e2=>wpAny_pure ?_)
 have to2:IsPair g2 TO a b:=e2.extBut _ _ D.TOi1 (e1.extBut _ _ D.TOz hTO)
 refine wpAny_bind (wpAny_seqItems to2 rfl (wpAny_bind (wpAny_updateSeq_pair to2 fun g3 to3 e3=>wpAny_bind (wpAny_letGo (wpAny_pure ?_)))))
 have to3:IsPair g3 TO x b:=to3
 have AV:Keeps s.heap g3 (fun c=>c=z∨c=i1∨c=TO):=fun c o nc e=>e3.extBut _ _ (fun q=>nc (.inr (.inr q))) (e2.extBut _ _ (fun q=>nc (.inr (.inl q))) (e1.extBut _ _ (fun q=>nc (.inl q)) e))
 refine wpAny_bind (wpAny_bind (wpAny_onRaise ?_))
 change wpAny _ _ (Bind.bind (Builtin.SmallTypes.nextOf (.ref i2)) _) _ _ _
 refine wpAny_bind (lH (h2.at fun o e=>AV _ _ (fun q=>q.elim D.i2z fun q=>q.elim D.i12.symm D.TOi2.symm) e) (vK.at fun o e=>AV _ _ (fun q=>q.elim D.l2z fun q=>q.elim D.l2i1 D.l2TO) e) hy fun g4 it2 e4=>wpAny_pure ?_)
 have NN:IsPair g4 TO x b:=e4.extBut _ _ D.TOi2 to3
 refine wpAny_bind (wpAny_seqItems NN rfl (wpAny_bind (wpAny_updateSeq_pair NN fun g5 IG e5=>wpAny_bind (wpAny_letGo (wpAny_pure (wpAny_pure ?_))))))
 have IG:IsPair g5 TO x y:=IG
 refine wpAny_bind (wpAny_seqItems IG rfl (wpAny_bind (wpAny_newTuple ?_)))
 have hsz:g5.objs.size=s.heap.objs.size:=by rw[e5.1,e4.1,e3.1,e2.1,e1.1]
 have z5:IsZip g5 z TI TO .ellipsis:=e5.extBut _ _ D.TOz.symm (e4.extBut _ _ D.i2z.symm (e3.extBut _ _ D.TOz.symm (e2.extBut _ _ D.i1z.symm z1)))
 have k5:Keeps s.heap g5 (C8 z TO i1 i2):=fun c o nc e=>e5.extBut _ _ (fun q=>nc (.inr (.inl q))) (e4.extBut _ _ (fun q=>nc (.inr (.inr (.inr q)))) (AV c o (fun q=>q.elim (fun q=>nc (.inl q)) fun q=>q.elim (fun q=>nc (.inr (.inr (.inl q)))) fun q=>nc (.inr (.inl q))) e))
 have Ku:fu k1 g5 i1 l1 (i+1):=it1.at fun o e=>e5.extBut _ _ D.TOi1.symm (e4.extBut _ _ D.i12 (e3.extBut _ _ D.TOi1.symm e))
 have Ms:fu k2 g5 i2 l2 (i+1):=it2.at fun o e=>e5.extBut _ _ D.TOi2.symm e
 have NJ:z<g5.objs.size:=Jk z5
 change wpAny _ _ (Bind.bind (Builtin.SmallTypes.ownedTupleHandOut (.ref z) (.ref g5.objs.size)) _) _ _ _
 refine wpAny_bind ?_
 unfold Builtin.SmallTypes.ownedTupleHandOut
 have z6:IsZip (g5.push { cls := .type "tuple",data := .seq #[x,y] }) z TI TO .ellipsis:=Jb _ z5
 refine wpAny_bind (wpAny_setField_rec z6 (by simp) fun g7 z7 e7 =>?_)
 have z7:IsZip g7 z TI TO (rawInt g5.objs.size):=z7
 refine wpAny_setField_rec z7 (by simp) fun g8 z8 e8=>wpAny_pure ⟨_,rfl,wpAny_pure ?_⟩
 have up:∀c o,c≠z->g5.get? c=some o->g8.get? c=some o:=fun c o c1 e=>e8.extBut _ _ c1 (e7.extBut _ _ c1 (Jb _ e))
 have tp:IsPair g8 g5.objs.size x y:=e8.extBut _ _ (Yk NJ) (e7.extBut _ _ (Yk NJ) (Jo _ rfl))
 have z8:IsZip g8 z TI TO (rawInt g5.objs.size):=z8
 show Q (some (.ref g5.objs.size)) _
 rw[hsz] at z8 tp ⊢
 exact q g8 z8 (up _ _ D.TOz IG) (Ku.at fun o e=>up _ o D.i1z e) (Ms.at fun o e=>up _ o D.i2z e) tp fun c o nc e=>up c o (fun q=>nc (.inl q)) (k5 c o nc e)
theorem u9 {Q:Option Value->Shared->Prop}(hh:A.handled=none)(D:ZipApart z TI TO i1 i2 l1 l2)(st:pR k1 k2 z TI TO i1 i2 l1 l2 i s.heap)(tX:dq k1 s.heap l1 xs)(vK:dq k2 s.heap l2 ys)(DJ:xs[i]? = none∨ys[i]? = none)
  (q:∀h',Keeps s.heap h' (C8 z TO i1 i2)->Q none { s with heap:=h' }):wpAny (model prog w) A (pyNext (.ref z)) Q E s:=by
 obtain⟨hz,vY,⟨a,b,hTO⟩,h1,h2⟩:=st
 have hT:s.TypeIs (.ref z) "zip":=⟨_,hz,rfl⟩
 unfold pyNext
 refine wpAny_bind (wpAny_attempt (wpAny_callSpecial?_slot (name:=Str.ofString "__next__") hT F.slot_zip_next (wpAny_call_entry F.slot_zip_next hT F.entry_zip_next ?_ (F.args_zip_next_1 _))))
 change wpAny _ _ (Bind.bind (field (.ref z) 2) _) _ _ _
 refine wpAny_bind (wpAny_field hz rfl (x := .bool false) rfl ?_)
 change wpAny _ _ (Bind.bind (field (.ref z) 3) _) _ _ _
 refine wpAny_bind (wpAny_field hz rfl (x := .ref TI) rfl (wpAny_bind (wpAny_seqItems vY rfl ?_)))
 change wpAny _ _ (Bind.bind (Builtin.SmallTypes.ownedTupleIsFree (.ref z)) _) _ _ _
 refine wpAny_bind ?_
 unfold Builtin.SmallTypes.ownedTupleIsFree
 refine wpAny_bind (wpAny_field hz rfl (x := .none) rfl (wpAny_pure ?_))
 simp only[if_true]
 refine wpAny_bind (wpAny_rule (wpAny_bind (wpAny_field hz rfl (x := .ref TO) rfl (wpAny_bind (wpAny_setField_rec hz (by simp) fun g1 z1 e1=>wpAny_bind ?_)))))
 have z1:IsZip g1 z TI TO .ellipsis:=z1
 simp only[List.zipIdx_cons,List.zipIdx_nil,Wi,List.forIn_nil]
 refine wpAny_bind (wpAny_bind (wpAny_onRaise ?_))
 change wpAny _ _ (Bind.bind (Builtin.SmallTypes.nextOf (.ref i1)) _) _ _ _
 cases hx:xs[i]? with
 | none=>
  refine wpAny_bind (pf hh (h1.at fun o e=>e1.extBut _ _ D.i1z e) (tX.at fun o e=>e1.extBut _ _ D.l1z e) hx fun g2 e e2 oe =>?_)
  refine ae.el (oe) _ ?_
  rintro o ho hc
  have z2:IsZip g2 z TI TO .ellipsis:=e2 _ _ D.i1z.symm z1
  have ez:e≠z:=fun q=>by subst q;rw[z2] at ho;cases ho;simp at hc
  refine wpAny_setField_rec z2 (by simp) fun g3 _ e3 =>?_
  refine wpAny_bind (wpAny_isInstance (T := "StopIteration") (b:=true) ⟨o,e3.extBut _ _ ez ho,hc⟩ isSubtype_stop (wpAny_pure (q g3 fun c o nc h =>?_)))
  exact e3.extBut _ _ (fun q=>nc (.inl q)) (e2 _ _ (fun q=>nc (.inr (.inr (.inl q)))) (e1.extBut _ _ (fun q=>nc (.inl q)) h))
 | some x=>
  have hy:ys[i]? = none:=DJ.resolve_left (by rw[hx];exact fun z=>nomatch z)
  refine wpAny_bind (lH (h1.at fun o e=>e1.extBut _ _ D.i1z e) (tX.at fun o e=>e1.extBut _ _ D.l1z e) hx fun g2 it1 e2=>wpAny_pure ?_)
  have to2:IsPair g2 TO a b:=e2.extBut _ _ D.TOi1 (e1.extBut _ _ D.TOz hTO)
  refine wpAny_bind (wpAny_seqItems to2 rfl (wpAny_bind (wpAny_updateSeq_pair to2 fun g3 to3 e3=>wpAny_bind (wpAny_letGo (wpAny_pure ?_)))))
  have AV:Keeps s.heap g3 (fun c=>c=z∨c=i1∨c=TO):=fun c o nc e=>e3.extBut _ _ (fun q=>nc (.inr (.inr q))) (e2.extBut _ _ (fun q=>nc (.inr (.inl q))) (e1.extBut _ _ (fun q=>nc (.inl q)) e))
  refine wpAny_bind (wpAny_bind (wpAny_onRaise ?_))
  change wpAny _ _ (Bind.bind (Builtin.SmallTypes.nextOf (.ref i2)) _) _ _ _
  refine wpAny_bind (pf hh (h2.at fun o e=>AV _ _ (fun q=>q.elim D.i2z fun q=>q.elim D.i12.symm D.TOi2.symm) e) (vK.at fun o e=>AV _ _ (fun q=>q.elim D.l2z fun q=>q.elim D.l2i1 D.l2TO) e) hy fun g4 e e4 oe =>?_)
  refine ae.el (oe) _ ?_
  rintro o ho hc
  have z4:IsZip g4 z TI TO .ellipsis:=e4 _ _ D.i2z.symm (e3.extBut _ _ D.TOz.symm (e2.extBut _ _ D.i1z.symm z1))
  have ez:e≠z:=fun q=>by subst q;rw[z4] at ho;cases ho;simp at hc
  refine wpAny_setField_rec z4 (by simp) fun g5 _ e5 =>?_
  refine wpAny_bind (wpAny_isInstance (T := "StopIteration") (b:=true) ⟨o,e5.extBut _ _ ez ho,hc⟩ isSubtype_stop (wpAny_pure (q g5 fun c o nc h =>?_)))
  exact e5.extBut _ _ (fun q=>nc (.inl q)) (e4 _ _ (fun q=>nc (.inr (.inr (.inr q)))) (AV c o (fun q=>q.elim (fun q=>nc (.inl q)) fun q=>q.elim (fun q=>nc (.inr (.inr (.inl q)))) fun q=>nc (.inr (.inl q))) h))
theorem pP {k:Bool}{a:Addr}{az:Array Value}{Q:Value->Shared->Prop}(h:dq k s.heap a az)(q:Q (.ref s.heap.objs.size) { s with heap:=s.heap.push { cls := .type (yu k),data := .fields #[.ref a,.int 0 0] } }):wpAny (model prog w) A (pyIter (.ref a)) Q E s:=by
 cases k with
 | false=>exact wpAny_pyIter_list h q
 | true=>exact wpAny_pyIter_tuple h q
end
noncomputable abbrev yd (k:Bool)(a:Addr):Obj:={ cls := .type (yu k),data := .fields #[.ref a,.int 0 0] }
noncomputable abbrev Ii (k1 k2:Bool)(h:Heap)(a b:Addr):Heap:=((((h.push (yd k1 a)).push (yd k2 b)).push { cls := .type "tuple",data := .seq #[.ref h.objs.size,.ref (h.objs.size+1)] }).push { cls := .type "tuple",data := .seq #[.none,.none] }).push
 { cls := .type "zip",data := .fields #[.none,.bool false,.bool false,.ref (h.objs.size+2),.ref (h.objs.size+3)] }
theorem yS (k1 k2:Bool)(a b:Addr)(xs ys:Array Value):
  Meets (Builtin.«zip.__new__» ⟨[.type "zip",.ref a,.ref b],[]⟩) (fun _ R s=>dq k1 s.heap a xs/\dq k2 s.heap b ys/\R (.ok (.ret (.ref (s.heap.objs.size+4)))) { s with heap:=Ii k1 k2 s.heap a b }):=
 .of_wp fun prog w A R s h=>by
  obtain⟨hp,g,d,tk,os⟩:=s;obtain⟨tX,vK,h⟩:=h
  have dA:=sub_zip
  have PB:dq k1 (Shared.heap ⟨hp,g,d,tk,os⟩) a xs:=tX
  have QW:dq k2 (Shared.heap ⟨hp.push (yd k1 a),g,d,tk,os⟩) b ys:=vK.at fun o e=>Jb _ e
  have s1:(hp.push (yd k1 a)).objs.size=hp.objs.size+1:=Yg ..
  wp_walk using pP PB,pP QW
  refine⟨_,rfl,?_⟩
  simp only[Yg] at h ⊢
  exact h
section
variable {prog:Program}{w:World}{A:Around}{E:Value->Shared->Prop}{s:Shared}
theorem vw {k1 k2:Bool}{a b:Addr}{xs ys:Array Value}{Q:Value->Shared->Prop}(h1:dq k1 s.heap a xs)(h2:dq k2 s.heap b ys)
  (q:∀h',pR k1 k2 (s.heap.objs.size+4) (s.heap.objs.size+2) (s.heap.objs.size+3) s.heap.objs.size (s.heap.objs.size+1) a b 0 h'->(∀c o,s.heap.get? c=some o->h'.get? c=some o)->Q (.ref (s.heap.objs.size+4)) { s with heap:=h' }) :
  wpAny (model prog w) A (call (.type "zip") [.ref a,.ref b]) Q E s:=by
 refine callType_new F.called_zip (by decide) (F.typeCall_zip_2 _ _) (F.newCall_zip_2 _ _) (fun obj=>F.args_object_init_3 obj _ _) F.entry_zip_new (yS k1 k2 a b xs ys) ⟨h1,h2,?_⟩
 have up:∀{h:Heap} {c:Addr} {o:Obj} (p:Obj),h.get? c=some o->(h.push p).get? c=some o:=fun p e=>Jb p e
 have last:∀{h:Heap} {n:Nat} {p:Obj},h.objs.size=n->p.isFreed=false->(h.push p).get? n=some p:=fun e hf=>by rw[<-e];exact Jo _ hf
 have z1:(s.heap.push (yd k1 a)).objs.size=s.heap.objs.size+1:=Yg ..
 have z2:((s.heap.push (yd k1 a)).push (yd k2 b)).objs.size=s.heap.objs.size+2:=by rw[Yg,z1]
 have z3:(((s.heap.push (yd k1 a)).push (yd k2 b)).push { cls := .type "tuple",data := .seq #[.ref s.heap.objs.size,.ref (s.heap.objs.size+1)] }).objs.size=s.heap.objs.size+3:=by rw[Yg,z2]
 have z4:((((s.heap.push (yd k1 a)).push (yd k2 b)).push { cls := .type "tuple",data := .seq #[.ref s.heap.objs.size,.ref (s.heap.objs.size+1)] }).push { cls := .type "tuple",data := .seq #[.none,.none] }).objs.size=s.heap.objs.size+4:=by rw[Yg,z3]
 have st:pR k1 k2 (s.heap.objs.size+4) (s.heap.objs.size+2) (s.heap.objs.size+3) s.heap.objs.size (s.heap.objs.size+1) a b 0 (Ii k1 k2 s.heap a b):=
  ⟨last z4 rfl,up _ (up _ (last z2 rfl)),⟨.none,.none,up _ (last z3 rfl)⟩,⟨_,up _ (up _ (up _ (up _ (last rfl rfl)))),rfl,rfl⟩,⟨_,up _ (up _ (up _ (last z1 rfl))),rfl,rfl⟩⟩
 have kp:∀c o,s.heap.get? c=some o->(Ii k1 k2 s.heap a b).get? c=some o:=fun c o e=>up _ (up _ (up _ (up _ (up _ e))))
 have ob:(Ii k1 k2 s.heap a b).get? (s.heap.objs.size+4)=some _:=st.zp
 exact⟨⟨_,ob,rfl⟩,q _ st kp⟩
end
def mZ (k:Bool)(K:Jc)(H:Hp)(a:Addr)(xs:List V):Prop:=if k=true then fw K H a xs else aD K H a xs
theorem Inv.uy {X:Cx}{pins:List (Addr×Obj)}{σ:St}{H:Hp}{s:Shared}{k:Bool}{a:Addr}{xs:List V}(I:Inv X pins σ H s)(h:mZ k X.K H a xs):∃az:List Value,Vals xs az/\dq k s.heap a az.toArray/\xs.length<=sizeLine:=by
 cases k with
 | false=>
  obtain⟨az,r,⟨o,n,e1,e2,_,e4⟩,z⟩:=I.list h
  exact⟨az,r,⟨o,e1,e2,n,e4⟩,z⟩
 | true=>
  obtain⟨az,r,⟨o,e1,e2,n,e4⟩,z⟩:=I.tuple h
  exact⟨az,r,⟨o,e1,e2,n,e4⟩,z⟩
theorem Inv.pJ {X:Cx}{pins:List (Addr×Obj)}{σ:St}{H:Hp}{s:Shared}{k:Bool}{a:Addr}{xs ys:List V}(I:Inv X pins σ H s)(h:mZ k X.K H a xs)(h':mZ k X.K H a ys):xs=ys:=by
 cases k with
 | false=>exact I.pV h h'
 | true=>exact I.uR h h'
noncomputable def EX (K:Jc)(k1 k2:Bool)(a b:Addr):It:=
 ⟨fun i H=>lU fun xs ys x y=>mZ k1 K H a xs/\mZ k2 K H b ys/\xs[i]? = some x/\ys[i]? = some y,
   fun i H v H'=>∃T,v = .ref T/\∀xs ys x y,mZ k1 K H a xs->mZ k2 K H b ys->xs[i]? = some x->ys[i]? = some y->dM H T (.tup [x,y]) H',
   fun i H=>bO fun xs ys=>mZ k1 K H a xs/\mZ k2 K H b ys/\(xs.length<=i∨ys.length<=i)⟩
theorem vG {P:Program}{w:World}{K:Jc}{elts:List Expr}{k:Nat}{tp:Pos}(k1 k2:Bool)(z TI TO i1 i2 l1 l2:Addr)(D:ZipApart z TI TO i1 i2 l1 l2):
  Turn P w K (.Tuple elts k tp) (EX K k1 k2 l1 l2) [z,TI,TO,i1,i2] z (pR k1 k2 z TI TO i1 i2 l1 l2) where
 mem:=by simp
 obj:=fun i h st b hb=>by
  obtain⟨h1,h2,⟨_,_,h3⟩,⟨o4,h4,_,d4⟩,⟨o5,h5,_,d5⟩⟩:=st
  simp at hb
  rcases hb with rfl|rfl|rfl|rfl|rfl
  ·exact⟨_,h1,fun _ z=>nomatch z⟩
  ·exact⟨_,h2,fun _ z=>nomatch z⟩
  ·exact⟨_,h3,fun _ z=>nomatch z⟩
  ·exact⟨_,h4,fun v q=>by rw[d4] at q;cases q⟩
  ·exact⟨_,h5,fun v q=>by rw[d5] at q;cases q⟩
 keep:=fun i h h' st hk=>by
  obtain⟨h1,h2,⟨a,b,h3⟩,h4,h5⟩:=st
  exact⟨hk z (by simp) _ h1,hk TI (by simp) _ h2,⟨a,b,hk TO (by simp) _ h3⟩,h4.at fun o e=>hk i1 (by simp) o e,h5.at fun o e=>hk i2 (by simp) o e⟩
 item:=fun X hP hw hK hc i pins s σ H E I hf st go=>by
  subst hP hw hK
  obtain⟨xs,ys,x,y,q1,q2,e1,e2⟩:=go
  refine ae.el (I.uy q1) _ ?_
  rintro its1 r1 p1 _
  refine ae.el (I.uy q2) _ ?_
  rintro its2 r2 p2 _
  refine ae.el (qc r1 e1) _ ?_
  rintro u1 g1 ru1
  refine ae.el (qc r2 e2) _ ?_
  rintro u2 g2 ru2
  have hz:=st.zp
  have vY:=st.ti
  refine uU D st p1 p2 g1 g2 fun h' a1 a2 a3 a4 a5 a7=>⟨_,rfl,?_⟩
  refine wpAny_letOwnedTupleGo_zip a1 fun h'' b1 b2 =>?_
  have PL:s.heap.objs.size≠z:=lT (Jk hz) (Jf _)
  have MU:∀c∈[z,TO,i1,i2],d6 X pins H c:=fun c hc=>hf c (by simp at hc ⊢;rcases hc with q|q|q|q<;>simp[q])
  have kp:∀c o,c∉[z,TO,i1,i2]->s.heap.get? c=some o->h''.get? c=some o:=fun c o hc e=>by
   simp only[J5,List.not_mem_nil,or_false] at hc
   exact b2.extBut c o (fun q=>hc (.inl q)) (a7 c o hc e)
  have I1:Inv X pins σ H { s with heap:=h'',toks:=s.toks }:=I.iter MU kp
  have fT:d6 X pins H s.heap.objs.size:=I.jd (Jf _) (I.aR.fresh (Jf _))
  have oT:h''.get? s.heap.objs.size=some { cls := .type "tuple",data := .seq #[u1,u2] }:=b2.extBut _ _ PL a5
  have I2:=I1.adopt (T:=s.heap.objs.size) (o := .tup [x,y]) fT I.sz ⟨by show 2<=sizeLine;decide,[u1,u2],.cons ru1 (.cons ru2 .nil),⟨_,oT,rfl,_,rfl⟩⟩
  refine⟨.ref s.heap.objs.size,_,I2,rfl,⟨_,rfl,fun xs' ys' x' y' q1' q2' e1' e2' =>?_⟩,⟨b1,b2.extBut _ _ D.TIz (a7 _ _ (fun q=>q.elim D.TIz fun q=>q.elim D.TITO fun q=>q.elim D.TIi1 D.TIi2) vY),⟨_,_,b2.extBut _ _ D.TOz a2⟩,a3.at fun o e=>b2.extBut _ _ D.i1z e,a4.at fun o e=>b2.extBut _ _ D.i2z e⟩,fun c hc =>?_⟩
  ·rw[I.pJ q1' q1] at e1'
   rw[I.pJ q2' q2] at e2'
   rw[e1] at e1';rw[e2] at e2';cases e1';cases e2'
   exact⟨fT.1,rfl⟩
  ·obtain⟨_,_,⟨_,_,hTO⟩,h1,h2⟩:=st
   have wk:c<s.heap.objs.size:=by
    simp at hc
    rcases hc with rfl|rfl|rfl|rfl|rfl
    ·exact Jk hz
    ·exact Jk vY
    ·exact Jk hTO
    ·exact h1.lt
    ·exact h2.lt
   rw[aj (cn wk (Jf _))]
   exact(hf c hc).1
 done:=fun X hP hw hK hc i pins s σ H E I hf st stop=>by
  subst hP hw hK
  obtain⟨xs,ys,q1,q2,e⟩:=stop
  refine ae.el (I.uy q1) _ ?_
  rintro its1 r1 p1 _
  refine ae.el (I.uy q2) _ ?_
  rintro its2 r2 p2 _
  have RP:=r1.length
  have RM:=r2.length
  refine u9 (I.ok.hd hc) D st p1 p2 ?_ fun h' kp=>⟨rfl,?_⟩
  ·rcases e with e|e
   ·exact .inl (by simp;omega)
   ·exact .inr (by simp;omega)
  ·refine I.iter (ch:=[z,TO,i1,i2]) (t':=s.toks) (fun c hc=>hf c (by simp at hc ⊢;rcases hc with q|q|q|q<;>simp[q])) fun c o hc e =>?_
   simp only[J5,List.not_mem_nil,or_false] at hc
   exact kp c o hc e
 self:=fun A i s Q E st hQ=>wpAny_pyIter_zip st.zp hQ
section
variable {X:Cx}
def FA (K:Jc)(ta:TA):TI:=fun σ H R=>ta σ H fun vs H1=>lU fun k1 k2 a b=>vs=[.ref a,.ref b]/\(∃xs,mZ k1 K H1 a xs)/\(∃ys,mZ k2 K H1 b ys)/\R (EX K k1 k2 a b) H1
theorem AF (K:Jc){elts:List Expr}{k:Nat}{tp:Pos}{a b:Expr}{ta:TA}{p pos:Pos}(hg:Gl X "zip")(hm:X.mg "zip" = none)(ha:PA X [a,b] ta)(hb:bootBuiltins "zip" = some (.type "zip"):=by first|rfl|decide)
  (hs:starEach [a,b] X.env=[(false,eval a X.env),(false,eval b X.env)]:=by rfl) (vZ:starEach [b] X.env=[(false,eval b X.env)]:=by rfl) (hK:X.K=K:=by rfl) :
  PI X (.Tuple elts k tp) (.Call (.Name "zip" p) [a,b] [] pos) (FA K ta):=by
 subst hK
 intro pins s σ H R I h
 refine Call_ (fW I hg hm hb (PyProof.Rows.callWith_type1 (aZ (ha s σ H _ I h) fun us s1 ⟨vs,H1,I1,r1,q1⟩=>?_) (by rw[hs,vZ]) (by rw[vZ];rfl)))
 obtain⟨k1,k2,l1,l2,e,⟨xs,q1⟩,⟨ys,q2⟩,q⟩:=q1
 subst e
 refine ae.el (vals2 r1) _ ?_
 rintro u w' rfl r1 r2
 cases r1;cases r2
 refine ae.el (I1.uy q1) _ ?_
 rintro its1 rv1 p1 _
 refine ae.el (I1.uy q2) _ ?_
 rintro its2 rv2 p2 _
 refine vw p1 p2 fun h' st hk=>wpAny_pyIter_zip st.zp ?_
 have I2:Inv X pins σ H1 { s1 with heap:=h' }:=I1.kept (t':=s1.toks) hk
 refine⟨_,_,_,_,H1,rfl,I2,vG k1 k2 _ _ _ _ _ _ _ (zipApart_new p1.lt p2.lt),st,fun c hc =>?_,q⟩
 have wk:s1.heap.objs.size<=c:=by
  simp at hc
  rcases hc with rfl|rfl|rfl|rfl|rfl
  ·exact Um _ _
  ·exact Um _ _
  ·exact Um _ _
  ·exact Jf _
  ·exact Um _ _
 exact I1.jd wk (I1.aR.fresh wk)
end
section
variable {X:Cx}{e:Expr}{te:TE}{pos p2 p3 p4:Pos}{j:Nat}
theorem Vals.rev:∀{xs:List V} {us:List Value},Vals xs us->Vals xs.reverse us.reverse:=by
 intro xs us t
 induction t with
 | nil=>exact .nil
 | cons r _ ih=>
  rw[List.reverse_cons,List.reverse_cons]
  exact ih.append (.cons r .nil)
end
section
variable {X:Cx}(K:Jc)
theorem Pq (hK:X.K=K:=by rfl):fj X (compareOp .In) (Nr K false):=by subst hK;exact u6
end
section
variable {prog:Program}{w:World}{A:Around}{R:Result->Shared->Prop}{s:Shared}
theorem qE {kx vx target iter:Expr}{ifs:List Expr}{scope:Scope}{pos:Pos}{it:Value}{D:Addr}{env:Env}(I:Nat->Shared->Prop)
  (turn:∀n s,I n s->wpAny (model prog w) A (pyNext it) (fun r s1=>match r with
   | none=>R (.ok .next) s1
   | some v=>wpAny (model prog w) A (letOwnedTupleGo target it v) (fun _ s1'=>wpAny (model prog w) A (assign target env v) (fun _ s2=>
     wpAny (model prog w) A (nh ifs env) (fun ok s3=>
      if ok=true then wpAny (model prog w) A (eval kx env) (fun kv s4=>wpAny (model prog w) A (eval vx env) (fun vv s5=>
       wpAny (model prog w) A (dictSet D kv vv) (fun _ s6=>∃m,m<n/\I m s6) gh s5) gh s4) gh s3
      else ∃m,m<n/\I m s3) gh s2) gh s1') gh s1) gh s)
  (n:Nat) (h:I n s):codeAny (model prog w) A (.compLoop (.DictComp kx vx [⟨target,iter,ifs,0⟩] scope pos) 0 it (.ref D) env) R s:=by
 refine codeAny_loop rfl I (fun n s hI=>(show wpAny _ A (Sem.onRaise (compTurn (.DictComp kx vx [⟨target,iter,ifs,0⟩] scope pos) 0 it (.ref D) env) (fun x=>do noteFrame x env;theTreesLotGoes x)) _ _ s from wpAny_noted ?_)) n h
 rw[compTurn_dict]
 refine wpAny_bind (wpAny_standAt (wpAny_bind (bB (aZ (turn n s hI) fun r s1 h1 =>?_))))
 cases r with
 | none=>exact wpAny_pure h1
 | some v=>
  refine wpAny_bind (bB (aZ h1 fun _ s1' h1' =>?_))
  refine wpAny_bind (bB (aZ h1' fun _ s2 h2=>wpAny_bind (bB (aZ h2 fun ok s3 h3 =>?_))))
  cases ok with
  | false=>exact wpAny_pure ⟨rfl,h3⟩
  | true=>
   exact wpAny_bind (wpAny_bind (bB (aZ h3 fun kv s4 h4=>wpAny_bind (wpAny_holding (bB (aZ h4 fun vv s5 h5=>wpAny_bind (wpAny_standAt (wpAny_holding (bB (aZ h5 fun _ s6 h6=>wpAny_pure ⟨rfl,h6⟩))))))))))
end
section
variable {X:Cx}{pins:List (Addr×Obj)}{σ:St}{H:Hp}{s:Shared}{a:Addr}{y v:V}{u r:Value}{A:Around}{E:Value->Shared->Prop}
theorem mF {kvs:List (Key×V)}{k:Key}{Q:Unit->Shared->Prop}(I:Inv X pins σ H s)(e:H a=some (.dK kvs))(l:kvs.length<sizeLine)(ry:RelV (kV k) u)(rv:RelV v r)
  (h:∀s',Inv X pins σ (upd H a (.dK (putK kvs k v))) s'->Q () s'):wpAny (model X.prog X.w) A (dictSet a u r) Q E s:=by
 refine ae.el (xI I.aR e) _ ?_
 rintro z hd vs rel dd
 have hz:vs.length<=sizeLine:=by rw[<-rel.length];exact z
 have hl:(putK kvs k v).length<=sizeLine:=by have:=cV kvs k v;omega
 refine wpAny_dictSet_pairs (hsz:=hz) (jV ry) dd fun h' dd' hs=>h _ ?_
 have he:∃q,h'.get? a=some q:=let ⟨q,_,_,hq,_⟩:=dd'; ⟨q,hq⟩
 exact ic I (by rw[e];exact True.intro) hs he (nZ hl hd (rel.put k rv) dd')
end
section
variable {X:Cx}{pins:List (Addr×Obj)}{σ:St}{H:Hp}{s:Shared}{scope:Scope}{Nc Fc:List Str}{js:List Nat}{cl:List (Str×Addr)}{C:Addr}{fp:List Addr}
theorem ph (I:Inv X pins σ H s)(c:dY X scope Nc Fc js)(dA:∀n c,cl.lookup n=some c->X.env.cells.lookup n=some c)(il:∀y∈scope.names,y.2 = .free->∃c,cl.lookup y.1=some c)
  (hC:s.heap.objs.size<=C) (hf:∀b∈fp,d6 X pins H b) (ho:∀b∈fp,∃o,s.heap.get? b=some o) {h1:Heap} {t1:Nat} {m:Str->Option Value}
  (hk:∀b o,s.heap.get? b=some o->h1.get? b=some o) (hm:h1.Ns C m) :
  Inv (fL X Nc Fc scope cl C s H fp) [] (Jp Nc.length none++cO σ js) H { s with heap:=h1,toks:=t1 }:=by
 refine⟨lr I c dA il hC hf ho,rfl,I.bare,Un.kept hk,⟨m,hm,fun i x v e1 e2 e3 =>?_⟩,fun x a e =>?_,I.aR.fresh hC,fun x a e=>I.freeC x a (dA x a e),fun p hp =>?_,I.aR.kept hk,?_⟩
 ·have e1:(Nc++Fc)[i]? = some x:=e1
  have e2:(Jp Nc.length none++cO σ js)[i]? = some (some v):=e2
  by_cases hi:i<Nc.length
  ·rw[Ul (by simpa using hi),Yu] at e2
   split at e2<;>cases e2
  ·rw[Ud (by omega)] at e1
   rw[Ud (by rw[Uk];omega),Uk] at e2
   refine ae.el (c.frees _ _ e1) _ ?_
   rintro An j hj hN
   have hv: σ[j]? = some (some v):=by
    unfold cO at e2
    rw[Jl,hj] at e2
    have e2:some ((σ[j]?).join)=some (some v):=e2
    cases q: σ[j]? with
    | none=>rw[q] at e2;cases e2
    | some z=>rw[q] at e2;cases e2;rfl
   have kx:=c.free _ (bX An) rfl
   refine ae.el (I.loc) _ ?_
   rintro m0 OA hl0
   have Kr:GN X.env.scope x:=by
    rcases kx with k|k
    ·exact .inr (.inl k)
    ·exact .inr (.inr k)
   refine ae.el (hl0 j x v hN hv Kr) _ ?_
   rintro u ru lk
   refine⟨u,ru,.inr ⟨?_,?_⟩⟩
   ·rw[lE];exact dZ An
   ·obtain⟨a,ha⟩:=il _ (bX An) rfl
    refine⟨a,ha,?_⟩
    rcases lk with ⟨k,_⟩|⟨_,a',ha',hcell⟩
    ·rcases kx with q|q<;>(rw[k] at q;cases q)
    ·have e:=dA _ _ ha
     dsimp only at e
     rw[ha'] at e;cases e
     exact hcell.keeps hk
 ·obtain⟨v,z⟩:=I.cell x a (dA x a e)
  exact⟨v,z.keeps hk⟩
 ·have hp:p∈([]:List (Addr×Obj)):=hp
  cases hp
 ·show(Jp Nc.length none++cO σ js).length=(Nc++Fc).length
  unfold cO
  rw[Je,Je,Uk,Ja,c.lens]
end
def Bm (J:It)(n:Nat)(js:List Nat)(g:TG)(tc:TT)(tk tv:TE)(σ:St)(D:Addr)(H1:Hp)(fin:Hp->Prop):Prop:=
 ∃W:Nat->Nat->Hp->Prop,(∃m,W 0 m H1)/\∀i m H,W i m H ->
  (J.stop i H/\fin H) ∨
  (J.go i H/\∀x H',J.yld i H x H'->g x (Jp n none++cO σ js) H' fun σ2 H2=>tc σ2 H2 fun b H3=>
   if b=true then tk σ2 H3 fun y H4=>tv σ2 H4 fun z H5=>bO fun kvs k=>H5 D=some (.dK kvs)/\y=kV k/\kvs.length<sizeLine/\∃m',m'<m/\W (i+1) m' (upd H5 D (.dK (putK kvs k z))) else ∃m',m'<m/\W (i+1) m' H3)
def kX (wi:TI)(n:Nat)(js:List Nat)(g:TG)(tc:TT)(tk tv:TE):TE:=fun σ H Q=>wi σ H fun J H1=>∀D,H1 D=none->Bm J n js g tc tk tv σ D (upd H1 D (.dK [])) fun H2=>Q (.ref D) H2
theorem lN {X:Cx}{kx vx tg iter:Expr}{ifs:List Expr}{scope:Scope}{pos:Pos}{Nc Fc:List Str}{js:List Nat}{wi:TI}{g:TG}{tc:TT}{tk tv:TE}{use:Option (Value->Sem Unit)}{QV:Value->Shared->Prop}
  (cL:X.calm=true) (c:dY X scope Nc Fc js) (hi:PI X tg iter wi)
  (hg:∀cl C s H fp,PG (fL X Nc Fc scope cl C s H fp) tg g) (xb:∀cl C s H fp,BV (fL X Nc Fc scope cl C s H fp) ifs tc) (cD:∀cl C s H fp,PE (fL X Nc Fc scope cl C s H fp) kx tk) (vR:∀cl C s H fp,PE (fL X Nc Fc scope cl C s H fp) vx tv) (gk:Gk Nc.length g)
  {pins:List (Addr×Obj)} {s:Shared} {σ:St} {H:Hp} {fin:Addr->Hp->Prop} (I:Inv X pins σ H s)
  (h:wi σ H fun J H1=>∀D,H1 D=none->Bm J Nc.length js g tc tk tv σ D (upd H1 D (.dK [])) (fin D))
  (behind:∀(C D:Addr) (m:Str->Option Value) (H2:Hp) (s2:Shared),Inv X pins σ H2 s2->s2.heap.Ns C m->d6 X pins H2 C->fin D H2->compPost (model X.prog X.w) X.A X.xe use QV (.ref D) C (.ok .next) s2)
  (hs:∀x,foldedSetIterable iter X.env x=pure x) :
  wpAny (model X.prog X.w) X.A (comprehension (.DictComp kx vx [⟨tg,iter,ifs,0⟩] scope pos) scope X.env (firstIterPos [⟨tg,iter,ifs,0⟩] pos) newDict false (eval iter X.env) use) QV X.xe s:=by
 obtain⟨cl,hclos,dA,il⟩:=iE (scope:=scope) (env:=X.env) fun y hy hf=>I.ok.has y.1 (c.free y hy hf)
 refine wpAny_comprehension_free (use:=use) rfl hs hclos c.kind c.names ?_
 refine aZ (hi s σ H _ I h) fun v s1 h1=>aZ h1 fun Ec s2 h2 =>?_
 obtain⟨it,fp,tn,J,H2,e,I2,T,bQ,f2,all⟩:=h2
 subst e
 refine wpAny_newObj_type (wpAny_newFunctionEnv c.nocell (by intro y hy;simp at hy) (fun h1 hns1 hsb1 =>?_) c.kind)
 dsimp only at hns1 hsb1 ⊢
 have zu:H2 s2.heap.objs.size=none:=I2.aR.fresh (Jf _)
 have yK:=I2.laid (a:=s2.heap.objs.size) (o := .dK []) (h':=s2.heap.push { cls := .type "dict",data := .dict #[] }) (t':=s2.toks) (fun _ _ q=>Jb _ q) (Jf _) (i0 s2.heap I2.big)
 obtain⟨W,⟨m0,w0⟩,turn⟩:=all _ zu
 have Gg:∀b∈fp,∃o,s2.heap.get? b=some o:=fun b hb=>let ⟨o,e,_⟩:=T.obj 0 _ bQ b hb; ⟨o,e⟩
 have lV:∀b∈fp,b<s2.heap.objs.size:=fun b hb=>let ⟨o,e⟩:=Gg b hb;Jk e
 generalize hG:s2.heap.push { cls := .type "dict",dict:=none,data := .dict #[] } = G at hns1 hsb1 yK ⊢
 have toG:∀b o,s2.heap.get? b=some o->G.get? b=some o:=fun b o e=>hG▸Jb _ e
 have hC:G.objs.size=s2.heap.objs.size+1:=by rw[<-hG,Yg]
 have old:∀b o,G.get? b=some o->h1.get? b=some o:=fun b o e=>
  hsb1.extBut b o (cn (Jk e) (Jf _)) (Jb _ e)
 let D:Addr:=s2.heap.objs.size
 let s2':Shared:={ s2 with heap:=G,toks:=s2.toks }
 let H2':Hp:=upd H2 D (.dK [])
 have Dw:∀b∈fp,d6 X pins H2' b:=fun b hb=>by
  obtain⟨a1,a2⟩:=f2 b hb
  refine⟨?_,a2⟩
  show upd H2 D (.dK []) b=none
  rw[aj (Jz (lV b hb))];exact a1
 have fo:∀b∈fp,∃o,s2'.heap.get? b=some o:=fun b hb=>let ⟨o,e⟩:=Gg b hb; ⟨o,toG b o e⟩
 have Mm:∀b∈fp,b<G.objs.size:=fun b hb=>by have:=lV b hb;rw[hC];exact Wl this
 let Xc:Cx:=fL X Nc Fc scope cl G.objs.size s2' H2' fp
 have gb:∀{H':Hp},(∀b∈fp,H' b=none)->∀b∈fp,d6 Xc [] H' b:=fun{H'} hn b hb=>by
  refine⟨hn b hb,?_,?_,.inl hb,fun x a e =>?_,fun p hq =>?_⟩
  ·exact cn (Mm b hb) (Jf _)
  ·exact(lr yK c dA il (Jf _) Dw fo).exfs b hb
  ·exact(f2 b hb).2.2.2.2.1 x a (dA _ _ e)
  ·have q:p∈([]:List (Addr×Obj))++[]:=hq
   simp at q
 have loop:∀t1,codeAny (model X.prog X.w) X.A (.compLoop (.DictComp kx vx [⟨tg,iter,ifs,0⟩] scope pos) 0 (.ref it) (.ref s2.heap.objs.size) (compEnvC scope cl G.objs.size X.env))
   (compPost (model X.prog X.w) X.A X.xe use QV (.ref s2.heap.objs.size) G.objs.size) { s2 with heap:=h1,toks:=t1 }:=by
  intro t1
  refine qE (fun n s'=>∃i H',Inv Xc [] (Jp Nc.length none++cO σ js) H' s'/\tn i s'.heap/\(∀b∈fp,H' b=none)/\W i n H') ?_ m0
   ⟨0,H2',ph yK c dA il (Jf _) Dw fo old hns1,T.keep _ _ _ bQ (fun b hb o e=>old b o (toG b o e)),fun b hb=>(Dw b hb).1,w0⟩
  intro n s3
  refine ae.go ?_
  rintro i H3 I3 cS fr3 w3
  rcases turn i n H3 w3 with ⟨stop,qn⟩|⟨go,step⟩
  ·refine aZ (T.done Xc rfl rfl rfl cL i _ s3 _ H3 gh I3 (gb fr3) cS stop) fun r s4 hz_ =>?_
   refine ae.el hz_ _ ?_
   clear hz_
   rintro hr I4
   subst hr
   show compPost _ _ _ _ _ _ _ _ _
   refine ae.el (I4.loc) _ ?_
   rintro mC hmC _
   have E6:H3 G.objs.size=none:=I4.free
   have u:Un (m5 X.stack) fp H2' H3 G s4.heap:=I4.base
   have mw:∀b∈fp,(b∈X.ex∨X.s₀.heap.objs.size<=b)/\b≠X.env.locals/\(∀x c,X.env.cells.lookup x=some c->c≠b)/\∀p∈X.pn++pins,p.1≠b:=fun b hb=>
    ⟨(f2 b hb).2.2.2.1,(f2 b hb).2.1,(f2 b hb).2.2.2.2.1,(f2 b hb).2.2.2.2.2⟩
   have G4:s4.os=s2'.os:=I4.os
   have J4:Inv X pins σ H3 s4:=yK.tI (H':=H3) G4 u I4.aR I4.bare mw
   exact behind G.objs.size D mC H3 s4 J4 hmC (yK.jd (Jf _) E6) qn
  ·refine aZ (T.item Xc rfl rfl rfl cL i _ s3 _ H3 gh I3 (gb fr3) cS go) fun r s4 hz_ =>?_
   refine ae.el hz_ _ ?_
   clear hz_
   rintro u hr h4
   subst hr
   show wpAny _ _ (letOwnedTupleGo tg (.ref it) u) _ _ _
   refine aZ h4 fun _ s5 hz_ =>?_
   refine ae.el hz_ _ ?_
   clear hz_
   rintro x H5 I5 r5 y5 dz fr5
   have zj:=I5.pinned (gb fr5) (T.obj _ _ dz)
   refine aZ (hg cl G.objs.size s2' H2' fp s5 _ H5 x u _ zj r5 (gk _ _ _ _ (step x H5 y5))) fun _ s6 hz_ =>?_
   refine ae.el hz_ _ ?_
   clear hz_
   rintro σ6 H6 I6 q6 kσ kl
   refine aZ (xb cl G.objs.size s2' H2' fp s6 σ6 H6 _ I6 q6) fun b s7 hz_ =>?_
   refine ae.el hz_ _ ?_
   clear hz_
   rintro H7 I7 q7
   have later:∀{σ':St} {H':Hp} {s':Shared},Inv Xc ([]++eK fp s5.heap) σ' H' s'->tn (i+1) s'.heap/\∀b∈fp,H' b=none:=fun{σ' H' s'} Iz=>by
    refine⟨T.keep _ _ _ dz fun b hb o e=>(Iz.pin (b,o) (Jj _ (Jj _ (bP hb e)))).1,fun b hb =>?_⟩
    refine ae.el (T.obj _ _ dz b hb) _ ?_
    rintro o e d
    exact(Iz.pin (b,o) (Jj _ (Jj _ (bP hb e)))).2.1
   have back:∀{pl:List (Addr×Obj)} {H':Hp} {s':Shared},Inv Xc pl σ6 H' s'->Inv Xc pl (Jp Nc.length none++cO σ js) H' s':=fun{pl H' s'} Iz=>by
    refine Iz.weak (by rw[<-kl]) fun j v hj =>?_
    by_cases hn:j<Nc.length
    ·rw[Ul (by simpa using hn),Yu] at hj
     split at hj<;>cases hj
    ·rw[kσ j (by omega)];exact hj
   cases b with
   | false=>
    rw[if_neg Jm] at q7 ⊢
    refine ae.el (q7) _ ?_
    rintro m' uN w7
    obtain⟨l1,l2⟩:=later I7
    exact⟨m',uN,i+1,H7,back I7.dJ,l1,l2,w7⟩
   | true=>
    rw[if_pos rfl] at q7 ⊢
    refine aZ (cD cl G.objs.size s2' H2' fp s7 σ6 H7 _ I7 q7) fun yv s8 hz_ =>?_
    refine ae.el hz_ _ ?_
    clear hz_
    rintro y H8 I8 r8 q8
    refine aZ (vR cl G.objs.size s2' H2' fp s8 σ6 H8 _ I8 q8) fun zv s9 hz_ =>?_
    refine ae.el hz_ _ ?_
    clear hz_
    rintro z H9 I9 r9 q9
    refine ae.el (q9) _ ?_
    rintro kvs k eD ey hl m' uN w9
    subst ey
    refine mF (X:=Xc) I9 eD hl r8 r9 fun s10 I10 =>?_
    obtain⟨l1,l2⟩:=later I10
    exact⟨m',uN,i+1,_,back I10.dJ,l1,l2,w9⟩
 exact codeAny_compStart_dict (loop _) (T.self _ 0 _ _ _ (T.keep _ _ _ bQ fun b hb o e=>old b o (toG b o e)) (loop _))
theorem kY {X:Cx}{kx vx tg iter:Expr}{ifs:List Expr}{scope:Scope}{pos:Pos}{Nc Fc:List Str}{js:List Nat}{wi:TI}{g:TG}{tc:TT}{tk tv:TE}
  (cL:X.calm=true) (c:dY X scope Nc Fc js) (hi:PI X tg iter wi) (gk:Gk Nc.length g)
  (hg:∀cl C s H fp,PG (fL X Nc Fc scope cl C s H fp) tg g) (xb:∀cl C s H fp,BV (fL X Nc Fc scope cl C s H fp) ifs tc) (cD:∀cl C s H fp,PE (fL X Nc Fc scope cl C s H fp) kx tk) (vR:∀cl C s H fp,PE (fL X Nc Fc scope cl C s H fp) vx tv)
  (hs:∀x,foldedSetIterable iter X.env x=pure x:=by intro _;rfl) :
  PE X (.DictComp kx vx [⟨tg,iter,ifs,0⟩] scope pos) (kX wi Nc.length js g tc tk tv):=by
 intro pins s σ H Q I h
 rw[arm_eval_DictComp]
 refine lN (use:=none) (fin:=fun D H2=>Q (.ref D) H2) cL c hi hg xb cD vR gk I h (fun C D m H2 s2 I2 hm hC q =>?_) hs
 refine⟨m,hm,fun h' hs' =>?_⟩
 exact⟨.ref D,_,I2.turned (it:=C) (t':=s2.toks) (fun b o hb e=>hs'.extBut b o hb e) hC.1 (hC.2.1) hC.2.2.2.1 hC.2.2.2.2.1 hC.2.2.2.2.2,rfl,q⟩
theorem qi {X:Cx}{i:Nat}{y:Str}{kx vx tg iter:Expr}{ifs:List Expr}{scope:Scope}{pos pos' py:Pos}{Nc Fc:List Str}{js:List Nat}{wi:TI}{g:TG}{tc:TT}{tk tv:TE}(hN:X.N.Nodup)(hy:X.N[i]? = some y)(hl:Loc X.env.scope y)
  (cL:X.calm=true) (c:dY X scope Nc Fc js) (hi:PI X tg iter wi) (gk:Gk Nc.length g)
  (hg:∀cl C s H fp,PG (fL X Nc Fc scope cl C s H fp) tg g) (xb:∀cl C s H fp,BV (fL X Nc Fc scope cl C s H fp) ifs tc) (cD:∀cl C s H fp,PE (fL X Nc Fc scope cl C s H fp) kx tk) (vR:∀cl C s H fp,PE (fL X Nc Fc scope cl C s H fp) vx tv)
  (K4:swapsWith (.DictComp kx vx [⟨tg,iter,ifs,0⟩] scope pos) (some (.Name y py)) pos'.line X.env=pure true:=by rfl)
  (hs:∀x,foldedSetIterable iter X.env x=pure x:=by intro _;rfl)
  (hf:X.fn y=true∨X.env.scope.names.lookup y=some .local:=by first|exact .inl rfl|exact .inr rfl|assumption) :
  PS X (.Assign [.Name y py] (.DictComp kx vx [⟨tg,iter,ifs,0⟩] scope pos) pos') (uF (kX wi Nc.length js g tc tk tv) (gU i)):=by
 intro pins s σ H E I h
 rw[exec_Assign_Name_used _ _ _ _ K4]
 refine wpAny_bind (wpAny_standAt (wpAny_bind ?_))
 show wpAny _ X.A (do let _ <-comprehension (.DictComp kx vx [⟨tg,iter,ifs,0⟩] scope pos) scope X.env _ newDict false (eval iter X.env) (some (assign (.Name y py) X.env))) _ _ s
 refine wpAny_bind (aZ (lN (use:=some (assign (.Name y py) X.env)) (fin:=fun D H2=>gU i (.ref D) σ H2 E.nx) (QV:=fun _ s'=>SP X pins E .next s') cL c hi hg xb cD vR gk I h (fun C D m H2 s2 I2 hm hC q =>?_) hs) fun _ s' hq=>wpAny_pure (wpAny_pure hq))
 show wpAny _ _ (assign (.Name y py) X.env (.ref D)) _ _ s2
 refine wpAny_assign_Name (jE I2 hN hy hl (v := .ref D) rfl (fun s3 I3 hz_=>ae.el hz_ _ fun a v5 ha =>?_) hf)
 have hZ:C≠a:=by
  rcases ha with e|e
  ·rw[e];exact hC.2.1
  ·exact fun z=>hC.2.2.2.2.1 _ _ e z.symm
 refine⟨m,hm.at' fun o e=>v5.extBut _ o hZ e,fun h' hs' =>?_⟩
 exact⟨_,_,I3.turned (it:=C) (t':=s3.toks) (fun b o hb e=>hs'.extBut b o hb e) hC.1 hC.2.1 hC.2.2.2.1 hC.2.2.2.2.1 hC.2.2.2.2.2,q⟩
section
variable {prog:Program}{w:World}{A:Around}{E:Value->Shared->Prop}{s:Shared}{a₀:Array Keyed}{key:Keyed->Int}{kd:SortKind}
def iT (prog:Program)(w:World)(A:Around)(E:Value->Shared->Prop)(s:Shared)(a₀:Array Keyed)(key:Keyed->Int)(kd:SortKind):Prop:=
 ∀(st:SortSt) (x y:Keyed) (Q:Option Bool->SortSt->Prop),x∈a₀.toList->y∈a₀.toList->kindOf st=kd->Q (some (decide (key x<key y))) st->wpS (model prog w) A E s (lt' x y) Q st
noncomputable def ky (key:Keyed->Int)(xs:Array Keyed)(i:Nat):Int:=match xs[i]? with
 | some p=>key p
 | none=>0
theorem cZ {xs ys:Array Keyed}{i j:Nat}(h:xs[i]? = ys[j]?):ky key xs i=ky key ys j:=by unfold ky;rw[h]
theorem di {xs:Array Keyed}{i:Nat}{p:Keyed}(h:xs[i]? = some p):ky key xs i=key p:=by unfold ky;rw[h]
structure Af (a₀:Array Keyed)(kd:SortKind)(lo:Nat)(iu st:SortSt):Prop where
 perm:(arrOf st).Perm a₀
 kind:kindOf st=kd
 failed:failedOf st=none
 pend:pendingOf st=pendingOf iu
 low:∀i,i<lo->(arrOf st)[i]? = (arrOf iu)[i]?
theorem Af.size {lo:Nat}{iu st:SortSt}(h:Af a₀ kd lo iu st):(arrOf st).size=a₀.size:=h.perm.size_eq
theorem Af.set {lo:Nat}{iu st:SortSt}(h:Af a₀ kd lo iu st){xs:Array Keyed}(hp:xs.Perm (arrOf st))(hl:∀i,i<lo->xs[i]? = (arrOf st)[i]?):Af a₀ kd lo iu (setArr st xs):=
 ⟨hp.trans h.perm,h.kind,h.failed,h.pend,fun i hi=>(hl i hi).trans (h.low i hi)⟩
theorem w6 {xs:Array Keyed}(hp:xs.Perm a₀){i:Nat}{p:Keyed}(h:xs[i]? = some p):p∈a₀.toList:=by
 refine(Wf.mp hp).mem_iff.mp ?_
 exact Array.mem_toList_iff.mpr (Array.mem_of_getElem? h)
theorem h7 {xs:Array Keyed}{i:Nat}{st:SortSt}{Q:Keyed->SortSt->Prop}(hi:i<xs.size)(h:∀p,xs[i]? = some p->Q p st):wpS (model prog w) A E s (elem' xs i) Q st:=by
 rw[elem'_eq,getElem?_pos xs i hi]
 exact wpS_pure (h _ (getElem?_pos xs i hi))
theorem A9 {st:SortSt}{i j:Nat}{Q:Option Bool->SortSt->Prop}(hL:iT prog w A E s a₀ key kd)(hp:(arrOf st).Perm a₀)(hk:kindOf st=kd)(hi:i<a₀.size)(hj:j<a₀.size)
  (h:Q (some (decide (ky key (arrOf st) i<ky key (arrOf st) j))) st):wpS (model prog w) A E s (ltAt' i j) Q st:=by
 rw[ltAt'_eq]
 refine wpS_bind (wpS_get ?_)
 show wpS _ _ _ _ (do let x <-elem' (arrOf st) i;let y <-elem' (arrOf st) j;lt' x y) Q st
 have hs:=hp.size_eq
 refine wpS_bind (h7 (by omega) fun p e1=>wpS_bind (h7 (by omega) fun q e2 =>?_))
 refine hL _ _ _ _ (w6 hp e1) (w6 hp e2) hk ?_
 rw[di e1,di e2] at h
 exact h
theorem Af.lt {lo:Nat}{iu st:SortSt}{i j:Nat}{Q:Option Bool->SortSt->Prop}(h:Af a₀ kd lo iu st)(hL:iT prog w A E s a₀ key kd)(hi:i<a₀.size)(hj:j<a₀.size)
  (q:Q (some (decide (ky key (arrOf st) i<ky key (arrOf st) j))) st):wpS (model prog w) A E s (ltAt' i j) Q st:=A9 hL h.perm h.kind hi hj q
def Sg (key:Keyed->Int)(xs:Array Keyed)(i j:Nat):Prop:=∀p q,i<=p->p<=q->q<j->ky key xs p<=ky key xs q
def Ng (key:Keyed->Int)(xs:Array Keyed)(i j:Nat):Prop:=∀p q,i<=p->p<=q->q<j->ky key xs q<=ky key xs p
theorem jA {xs:Array Keyed}{i j:Nat}(hj:j<=xs.size)(k:Nat):
  ky key (mirror xs i j ((j-i) / 2)) k=if i<=k/\k<j then ky key xs (i+j-1-k) else ky key xs k:=by
 have e:=getElem?_mirror_all (i:=i) hj k
 by_cases h1:i<=k/\k<j
 ·rw[if_pos h1] at e ⊢;exact cZ e
 ·rw[if_neg h1] at e ⊢;exact cZ e
theorem sh {xs:Array Keyed}{i j lo:Nat}(hj:j<=xs.size)(hi:lo<=i):∀k,k<lo->(mirror xs i j ((j-i) / 2))[k]? = xs[k]?:=fun k hk=>by
 rw[getElem?_mirror_all hj,if_neg (by omega)]
theorem cu {xs:Array Keyed}{i j:Nat}(hj:j<=xs.size)(heq:∀k,i<=k->k<j->ky key xs k=ky key xs (j-1))(k:Nat):
  ky key (mirror xs i j ((j-i) / 2)) k=ky key xs k:=by
 rw[jA hj]
 split
 ·rw[heq _ (by omega) (by omega),heq k (by omega) (by omega)]
 ·rfl
theorem Af.rev {lo i j:Nat}{iu st:SortSt}(h:Af a₀ kd lo iu st)(hi:lo<=i)(hj:j<=a₀.size):Af a₀ kd lo iu (setArr st (mirror (arrOf st) i j ((j-i) / 2))):=
 h.set (mirror_perm _ _ _ _) (sh (by rw[h.size];exact hj) hi)
noncomputable def yN (lo a bM:Nat):StateT SortSt Sem AscSt:=
 forIn [a:bM] ((none,a):AscSt) fun _ c=>do
  let x <-ltAt' (lo+c.snd) (lo+c.snd-1)
  match x with
  | some smaller=>if smaller=true then pure (ForInStep.done (none,c.snd)) else pure (ForInStep.yield (none,c.snd+1))
  | _=>pure (ForInStep.done (some none,c.snd))
noncomputable def oZ (lo n bM:Nat):StateT SortSt Sem (Option Nat):=do
 reverseSlice' lo (lo+n)
 let c <-yN lo n bM
 match c.fst with
 | some r=>pure r
 | none=>pure (some c.snd)
noncomputable def sV (lo n bM:Nat):StateT SortSt Sem DescSt:=
 forIn [n:bM] ((none,n,0):DescSt) fun _ c=>do
  let x <-ltAt' (lo+c.snd.fst) (lo+c.snd.fst-1)
  match x with
  | some smaller=>
   if smaller=true then
    if c.snd.snd>0 then do
     reverseSlice' (lo+c.snd.fst-(c.snd.snd+1)) (lo+c.snd.fst)
     pure (ForInStep.yield (none,c.snd.fst+1,0))
    else pure (ForInStep.yield (none,c.snd.fst+1,0))
   else do
    let x <-ltAt' (lo+c.snd.fst-1) (lo+c.snd.fst)
    match x with
    | some larger=>
     if larger=true then pure (ForInStep.done (none,c.snd.fst,c.snd.snd))
     else pure (ForInStep.yield (none,c.snd.fst+1,c.snd.snd+1))
    | _=>pure (ForInStep.done (some none,c.snd.fst,c.snd.snd))
  | _=>pure (ForInStep.done (some none,c.snd.fst,c.snd.snd))
noncomputable def qu (lo n bM:Nat):StateT SortSt Sem (Option Nat):=do
 liftM (rule "list.sort.descending-run")
 let c <-sV lo (n+1) bM
 match c.fst with
 | some r=>pure r
 | none=>
  if c.snd.snd>0 then do
   reverseSlice' (lo+c.snd.fst-(c.snd.snd+1)) (lo+c.snd.fst)
   oZ lo c.snd.fst bM
  else oZ lo c.snd.fst bM
theorem uM (lo bM:Nat):countRun' lo bM=(do
  let c <-yN lo 1 bM
  match c.fst with
  | some r=>pure r
  | none=>
   if (c.snd==bM)=true then pure (some c.snd)
   else if c.snd>1 then do
    let x <-ltAt' lo (lo+c.snd-1)
    match x with
    | some rose=>if rose=true then pure (some c.snd) else do
      reverseSlice' lo (lo+c.snd)
      qu lo c.snd bM
    | _=>pure none
   else qu lo c.snd bM):=by
 rw[countRun'_eq]
 dsimp only
 unfold qu oZ sV yN
 congr 1
 funext c
 obtain⟨r,n⟩:=c
 cases r with
 | some r=>rfl
 | none=>
  dsimp only
  split
  ·rfl
  ·split
   ·congr 1
    funext x
    cases x with
    | none=>rfl
    | some rose=>
     dsimp only
     split
     ·rfl
     ·congr 1
      funext _r
      congr 1;funext _u;congr 1;congr 1;funext s2;obtain⟨r2,n2,q2⟩:=s2
      cases r2 with
      | some r2=>rfl
      | none=>(dsimp only;split; (congr 1;funext _v; (congr 1;funext _w;congr 1; (funext s3;obtain⟨r3,n3⟩:=s3;cases r3<;>rfl))); (congr 1;funext _w;congr 1; (funext s3;obtain⟨r3,n3⟩:=s3;cases r3<;>rfl)))
   ·congr 1;funext _u;congr 1;congr 1;funext s2;obtain⟨r2,n2,q2⟩:=s2
    cases r2 with
    | some r2=>rfl
    | none=>(dsimp only;split; (congr 1;funext _v; (congr 1;funext _w;congr 1; (funext s3;obtain⟨r3,n3⟩:=s3;cases r3<;>rfl))); (congr 1;funext _w;congr 1; (funext s3;obtain⟨r3,n3⟩:=s3;cases r3<;>rfl)))
theorem wK {iu st:SortSt}{lo a bM:Nat}{Q:AscSt->SortSt->Prop}(hL:iT prog w A E s a₀ key kd)(hn:lo+bM<=a₀.size)(ha:1<=a)(Rb:a<=bM)(hB:Af a₀ kd lo iu st)
  (hs:Sg key (arrOf st) lo (lo+a))
  (h:∀n,a<=n->n<=bM->Sg key (arrOf st) lo (lo+n)->(n=bM∨ky key (arrOf st) (lo+n)<ky key (arrOf st) (lo+n-1))->Q (none,n) st) :
  wpS (model prog w) A E s (yN lo a bM) Q st:=by
 unfold yN
 refine wpS_forRange (I:=fun x c aE=>aE=st/\c=(none,x)/\Sg key (arrOf st) lo (lo+x)) ?step ?fin ⟨rfl,rfl,hs⟩
 case fin=>
  intro c aE
  refine ae.go ?_
  rintro rfl rfl hs'
  rw[Nat.max_eq_right (by omega)] at hs' ⊢
  exact h bM Rb (Jf _) hs' (.inl rfl)
 case step=>
  intro x c aE hax GP
  refine ae.go ?_
  rintro rfl rfl hs'
  dsimp only
  refine wpS_bind (hB.lt hL (by omega) (by omega) ?_)
  by_cases hless:ky key (arrOf aE) (lo+x)<ky key (arrOf aE) (lo+x-1)
  ·simp -iota only [hless,decide_true,if_true]
   exact wpS_pure (h x hax (by omega) hs' (.inr hless))
  ·simp -iota only [hless,decide_false,Ua,if_false]
   refine wpS_pure ⟨rfl,rfl,fun i j hl ij hj =>?_⟩
   by_cases hjx:j<lo+x
   ·exact hs' i j hl ij hjx
   ·have yF:j=lo+x:=by omega
    subst yF
    by_cases iV:i=lo+x
    ·subst iV;exact Yn _
    ·exact Int.le_trans (hs' i (lo+x-1) hl (Y5 (Ut ij iV)) (by omega)) (Int.not_lt.mp hless)
theorem uo {iu st:SortSt}{lo n bM:Nat}{Q:Option Nat->SortSt->Prop}(hL:iT prog w A E s a₀ key kd)(hn:lo+bM<=a₀.size)(h1:1<=n)(zb:n<=bM)(hB:Af a₀ kd lo iu st)
  (hs:Ng key (arrOf st) lo (lo+n)) (h:∀m aE,Af a₀ kd lo iu aE->1<=m->m<=bM->Sg key (arrOf aE) lo (lo+m)->Q (some m) aE) :
  wpS (model prog w) A E s (oZ lo n bM) Q st:=by
 unfold oZ
 have hsz:lo+n<=(arrOf st).size:=by rw[hB.size];omega
 refine wpS_bind (wpS_reverse ?_)
 have gu:=hB.rev (i:=lo) (j:=lo+n) (Jf _) (by omega)
 refine wpS_bind (wK hL hn h1 zb gu ?_ fun m hm1 hm2 hsm _=>wpS_pure (h m _ gu (by omega) hm2 hsm))
 intro i j hl ij hj
 show ky key (mirror (arrOf st) lo (lo+n) ((lo+n-lo) / 2)) i<=ky key (mirror (arrOf st) lo (lo+n) ((lo+n-lo) / 2)) j
 rw[jA hsz,jA hsz,if_pos (by omega),if_pos (by omega)]
 exact hs _ _ (by omega) (Nat.sub_le_sub_left ij _) (by omega)
theorem AE {iu st:SortSt}{lo n bM:Nat}{Q:DescSt->SortSt->Prop}(hL:iT prog w A E s a₀ key kd)(hn:lo+bM<=a₀.size)(h1:1<=n)(zb:n<=bM)(hB:Af a₀ kd lo iu st)
  (hs:Ng key (arrOf st) lo (lo+n))
  (h:∀m neq aE,Af a₀ kd lo iu aE->n<=m->m<=bM->Ng key (arrOf aE) lo (lo+m)->neq+1<=m->(∀i,lo+m-(neq+1)<=i->i<lo+m->ky key (arrOf aE) i=ky key (arrOf aE) (lo+m-1))->Q (none,m,neq) aE) :
  wpS (model prog w) A E s (sV lo n bM) Q st:=by
 unfold sV
 refine wpS_forRange (I:=fun x c aE=>∃neq,c=(none,x,neq)/\Af a₀ kd lo iu aE/\Ng key (arrOf aE) lo (lo+x)/\neq+1<=x /\
   (∀i,lo+x-(neq+1)<=i->i<lo+x->ky key (arrOf aE) i=ky key (arrOf aE) (lo+x-1))) ?step ?fin ⟨0,rfl,hB,hs,by omega,fun i h1 h2=>congrArg (ky key _) (Nat.le_antisymm (Y5 h2) h1)⟩
 case fin=>
  intro c aE
  refine ae.go ?_
  rintro neq rfl gu hs' hq he
  rw[Nat.max_eq_right zb] at hs' hq he ⊢
  exact h bM neq aE gu zb (Jf _) hs' hq he
 case step=>
  intro x c aE hax GP
  refine ae.go ?_
  rintro neq rfl gu hs' hq he
  dsimp only
  have hsz:lo+x<=(arrOf aE).size:=by rw[gu.size];omega
  have lx:lo+x-1<lo+x:=by omega
  refine wpS_bind (gu.lt hL (by omega) (by omega) ?_)
  by_cases hless:ky key (arrOf aE) (lo+x)<ky key (arrOf aE) (lo+x-1)
  ·simp -iota only [hless,decide_true,if_true]
   have mO:∀xs:Array Keyed,(∀k,ky key xs k=ky key (arrOf aE) k)->Ng key xs lo (lo+(x+1)):=by
    intro xs hk i j hl ij hj
    rw[hk,hk]
    by_cases hjx:j<lo+x
    ·exact hs' i j hl ij hjx
    ·have yF:j=lo+x:=by omega
     subst yF
     by_cases iV:i=lo+x
     ·subst iV;exact Yn _
     ·exact Int.le_trans (Ys hless) (hs' i (lo+x-1) hl (Y5 (Ut ij iV)) lx)
   by_cases hneq:neq>0
   ·rw[if_pos hneq]
    refine wpS_bind (wpS_reverse (wpS_pure ⟨0,rfl,gu.rev (by omega) (by omega),mO _ (cu hsz he),by omega,fun i h1 h2=>congrArg (ky key _) (Nat.le_antisymm (Y5 h2) h1)⟩))
   ·rw[if_neg hneq]
    exact wpS_pure ⟨0,rfl,gu,mO _ (fun _=>rfl),by omega,fun i h1 h2=>congrArg (ky key _) (Nat.le_antisymm (Y5 h2) h1)⟩
  ·simp -iota only [hless,decide_false,Ua,if_false]
   refine wpS_bind (gu.lt hL (by omega) (by omega) ?_)
   by_cases hlarger:ky key (arrOf aE) (lo+x-1)<ky key (arrOf aE) (lo+x)
   ·simp -iota only [hlarger,decide_true,if_true]
    exact wpS_pure (h x neq aE gu hax (by omega) hs' hq he)
   ·simp -iota only [hlarger,decide_false,Ua,if_false]
    have Fo:ky key (arrOf aE) (lo+x)=ky key (arrOf aE) (lo+x-1):=by omega
    refine wpS_pure ⟨neq+1,rfl,gu,fun i j hl ij hj =>?_,by omega,fun i h1 h2 =>?_⟩
    ·by_cases hjx:j<lo+x
     ·exact hs' i j hl ij hjx
     ·have yF:j=lo+x:=by omega
      subst yF
      by_cases iV:i=lo+x
      ·subst iV;exact Yn _
      ·rw[Fo];exact hs' i (lo+x-1) hl (Y5 (Ut ij iV)) lx
    ·rw[show lo+(x+1)-1=lo+x from Nat.add_sub_cancel (lo+x) 1]
     by_cases hix:i=lo+x
     ·subst hix;rfl
     ·rw[Fo];exact he i (Ju (Yy (Nat.succ_sub_succ (lo+x) (neq+1)).symm) h1) (Ut (Wm h2) hix)
theorem qS {iu st:SortSt}{lo n bM:Nat}{Q:Option Nat->SortSt->Prop}(hL:iT prog w A E s a₀ key kd)(hn:lo+bM<=a₀.size)(zb:n+1<=bM)(hB:Af a₀ kd lo iu st)
  (hs:Ng key (arrOf st) lo (lo+(n+1))) (h:∀m aE,Af a₀ kd lo iu aE->1<=m->m<=bM->Sg key (arrOf aE) lo (lo+m)->Q (some m) aE) :
  wpS (model prog w) A E s (qu lo n bM) Q st:=by
 unfold qu
 refine wpS_bind (wpS_lift (wpAny_rule ⟨rfl,?_⟩))
 refine wpS_bind (AE hL hn (by omega) zb hB hs fun m neq aE gu hm1 hm2 hs' hq he =>?_)
 dsimp only
 have hsz:lo+m<=(arrOf aE).size:=by rw[gu.size];omega
 by_cases hneq:neq>0
 ·rw[if_pos hneq]
  refine wpS_bind (wpS_reverse (uo hL hn (by omega) hm2 (gu.rev (by omega) (by omega)) ?_ h))
  intro i j hl ij hj
  show ky key (mirror (arrOf aE) _ _ _) j<=ky key (mirror (arrOf aE) _ _ _) i
  rw[cu hsz he,cu hsz he]
  exact hs' i j hl ij hj
 ·rw[if_neg hneq]
  exact uo hL hn (by omega) hm2 gu hs' h
theorem wY {iu st:SortSt}{lo bM:Nat}{Q:Option Nat->SortSt->Prop}(hL:iT prog w A E s a₀ key kd)(hn:lo+bM<=a₀.size)(h1:1<=bM)(hB:Af a₀ kd lo iu st)
  (h:∀m aE,Af a₀ kd lo iu aE->1<=m->m<=bM->Sg key (arrOf aE) lo (lo+m)->Q (some m) aE) :
  wpS (model prog w) A E s (countRun' lo bM) Q st:=by
 rw[uM]
 refine wpS_bind (wK hL hn (Jf 1) h1 hB (fun i j hl ij hj=>by rw[show i=j by omega];exact Yn _) fun n hn1 De hsn hor =>?_)
 dsimp only
 by_cases zb:n=bM
 ·rw[if_pos (by simpa using zb)]
  exact wpS_pure (h n st hB hn1 De hsn)
 ·rw[if_neg (by simpa using zb)]
  have bN:ky key (arrOf st) (lo+n)<ky key (arrOf st) (lo+n-1):=hor.resolve_left zb
  by_cases hgt:n>1
  ·rw[if_pos hgt]
   refine wpS_bind (hB.lt hL (by omega) (by omega) ?_)
   by_cases hrose:ky key (arrOf st) lo<ky key (arrOf st) (lo+n-1)
   ·simp -iota only [hrose,decide_true,if_true]
    exact wpS_pure (h n st hB hn1 De hsn)
   ·simp -iota only [hrose,decide_false,Ua,if_false]
    have hsz:lo+n<=(arrOf st).size:=by rw[hB.size];omega
    have eg:∀k,lo<=k->k<lo+n->ky key (arrOf st) k=ky key (arrOf st) (lo+n-1):=by
     intro k hl hk
     have a1:=hsn lo k (by omega) hl hk
     have a2:=hsn k (lo+n-1) hl (by omega) (by omega)
     omega
    refine wpS_bind (wpS_reverse (qS hL hn (by omega) (hB.rev (by omega) (by omega)) ?_ h))
    intro i j hl ij hj
    show ky key (mirror (arrOf st) _ _ _) j<=ky key (mirror (arrOf st) _ _ _) i
    rw[cu hsz eg,cu hsz eg]
    by_cases hjn:j<lo+n
    ·rw[eg i hl (by omega),eg j (by omega) hjn];exact Yn _
    ·have yF:j=lo+n:=by omega
     subst yF
     by_cases iV:i=lo+n
     ·subst iV;exact Yn _
     ·rw[eg i hl (by omega)];exact Ys bN
  ·rw[if_neg hgt]
   have Ld:n=1:=by omega
   subst Ld
   refine qS hL hn (by omega) hB ?_ h
   intro i j hl ij hj
   by_cases iV:i=j
   ·subst iV;exact Yn _
   ·have CF:i=lo:=by omega
    have QK:j=lo+1:=by omega
    subst CF;subst QK
    exact Ys bN
theorem mi {xs:Array Keyed}{src d:Nat}(hs:src<xs.size)(hd:d<=src)(k:Nat):
  ky key (bubble xs src d) k=if k=src-d then ky key xs src else if src-d<k/\k<=src then ky key xs (k-1) else ky key xs k:=by
 have e:=getElem?_bubble hs d hd k
 by_cases h1:k=src-d
 ·rw[if_pos h1] at e ⊢;exact cZ e
 ·rw[if_neg h1] at e ⊢
  by_cases h2:src-d<k/\k<=src
  ·rw[if_pos h2] at e ⊢;exact cZ e
  ·rw[if_neg h2] at e ⊢;exact cZ e
theorem CS {iu st:SortSt}{lo n ok:Nat}{Q:Bool->SortSt->Prop}(hL:iT prog w A E s a₀ key kd)(hn:lo+n<=a₀.size)(aR:ok<=n)(hB:Af a₀ kd lo iu st)(hs:Sg key (arrOf st) lo (lo+ok))
  (h:∀aE,Af a₀ kd lo iu aE->Sg key (arrOf aE) lo (lo+n)->Q true aE):wpS (model prog w) A E s (binarySort' lo n ok) Q st:=by
 rw[binarySort'_eq]
 refine wpS_bind (wpS_mono (wpS_forRange (I:=fun k c aE=>c=(none,())/\Af a₀ kd lo iu aE/\Sg key (arrOf aE) lo (lo+min k n))
  (Q:=fun c aE=>c=(none,())/\Af a₀ kd lo iu aE/\Sg key (arrOf aE) lo (lo+n)) ?step ?fin ?init) ?post)
 case post=>
  intro c aE
  refine ae.go ?_
  rintro rfl gu hs'
  exact wpS_pure (h aE gu hs')
 case init=>
  refine⟨rfl,hB,fun i j hl ij hj =>?_⟩
  by_cases h1:ok=0
  ·subst h1
   have Kh:j<lo+1:=Jv hj (U8 (Nat.min_le_left _ _) _)
   have:i=j:=Nat.le_antisymm ij (Ju (Wm Kh) hl)
   subst this;exact Yn _
  ·exact hs i j hl ij (Jv hj (U8 (Ju (Nat.min_le_left _ _) (Yy (Nat.max_eq_left (Nat.pos_of_ne_zero h1)))) _))
 case fin=>
  intro c aE
  refine ae.go ?_
  rintro hc gu hs'
  refine⟨hc,gu,?_⟩
  rwa[Nat.min_eq_right (Nat.le_max_right _ _)] at hs'
 case step=>
  intro k c aE hak hkn
  refine ae.go ?_
  rintro rfl gu hs'
  rw[Y0 (Uy hkn)] at hs'
  have hk:lo+k<a₀.size:=by omega
  refine wpS_bind (wpS_mono (wpS_forRange (I:=fun x c st''=>st''=aE/\∃l r,c=(none,l,r)/\l<=r/\r<=k/\r+x<=k+l /\
    (∀i,i<l->ky key (arrOf aE) (lo+i)<=ky key (arrOf aE) (lo+k))/\(∀i,r<=i->i<k->ky key (arrOf aE) (lo+k)<ky key (arrOf aE) (lo+i)))
   (Q:=fun c st''=>st''=aE/\∃l r,c=(none,l,r)/\l<=k /\
    (∀i,i<l->ky key (arrOf aE) (lo+i)<=ky key (arrOf aE) (lo+k))/\(∀i,l<=i->i<k->ky key (arrOf aE) (lo+k)<ky key (arrOf aE) (lo+i))) ?istep ?ifin ?iinit) ?ipost)
  case iinit=>exact⟨rfl,0,k,rfl,by omega,by omega,by omega,fun i hi=>by omega,fun i h1 h2=>by omega⟩
  case ifin=>
   intro c st''
   refine ae.go ?_
   rintro rfl l r rfl Ei hrk hm yR hhi
   have:l=r:=by omega
   subst this
   exact⟨rfl,l,l,rfl,hrk,yR,hhi⟩
  case istep=>
   intro x c st'' _ hxk
   refine ae.go ?_
   rintro rfl l r rfl Ei hrk hm yR hhi
   dsimp only
   by_cases hge:l>=r
   ·rw[if_pos hge]
    have:l=r:=by omega
    subst this
    exact wpS_pure ⟨rfl,l,l,rfl,hrk,yR,hhi⟩
   ·rw[if_neg hge]
    have y1:l<=(l+r) / 2:=by omega
    have y2:(l+r) / 2<r:=by omega
    generalize (l+r) / 2=m at y1 y2 ⊢
    refine wpS_bind (gu.lt hL hk (by omega) ?_)
    by_cases hless:ky key (arrOf st'') (lo+k)<ky key (arrOf st'') (lo+m)
    ·simp -iota only [hless,decide_true,if_true]
     refine wpS_pure ⟨rfl,l,m,rfl,y1,by omega,by omega,yR,fun i h1 h2 =>?_⟩
     exact Int.lt_of_lt_of_le hless (hs' _ _ (Um _ _) (by omega) (by omega))
    ·simp -iota only [hless,decide_false,Ua,if_false]
     refine wpS_pure ⟨rfl,m+1,r,rfl,y2,hrk,by omega,fun i h1 =>?_,hhi⟩
     exact Int.le_trans (hs' (lo+i) (lo+m) (Um _ _) (by omega) (by omega)) (Int.not_lt.mp hless)
  case ipost=>
   intro c st''
   refine ae.go ?_
   rintro rfl l r rfl hlk yR hhi
   show wpS _ _ _ _ (do moveDown' (lo+k) (lo+l);pure (ForInStep.yield (none,()))) _ _
   rw[moveDown'_eq]
   have Ed:lo+k<(arrOf st'').size:=by rw[gu.size];exact hk
   refine wpS_bind (wpS_modify (wpS_pure ⟨rfl,gu.set (bubble_perm _ _ _) (fun i hi =>?_),?_⟩))
   ·rw[getElem?_bubble Ed _ (Nat.sub_le _ _),Nat.sub_sub_self (U8 hlk lo),if_neg (by omega),if_neg (by omega)]
   rw[Y0 hkn]
   have CU:∀i,lo<=i->i<lo+l->ky key (arrOf st'') i<=ky key (arrOf st'') (lo+k):=fun i h1 h2=>by
    have:=yR (i-lo) (Nat.sub_lt_left_of_lt_add h1 h2);rwa[Y9 h1] at this
   have CN:∀i,lo+l<=i->i<lo+k->ky key (arrOf st'') (lo+k)<ky key (arrOf st'') i:=fun i h1 h2=>by
    have h0:=Ju (Um lo l) h1;have:=hhi (i-lo) (Nat.le_sub_of_add_le' h1) (Nat.sub_lt_left_of_lt_add h0 h2);rwa[Y9 h0] at this
   intro i j hl ij hj
   show ky key (bubble (arrOf st'') (lo+k) (lo+k-(lo+l))) i<=ky key (bubble (arrOf st'') (lo+k) (lo+k-(lo+l))) j
   have hj:j<lo+k+1:=hj
   have hy:lo+l<=lo+k:=U8 hlk _
   have h0:lo<=lo+l:=Um _ _
   rw[mi Ed (Nat.sub_le _ _),mi Ed (Nat.sub_le _ _),Nat.sub_sub_self hy]
   clear yR hhi h hB hs hn aR hak hkn hk hlk hL
   generalize lo+l=y at h0 hy CU CN ⊢
   generalize lo+k=z at hy CU CN hs' hj Ed ⊢
   repeat' split
   all_goals first
    | (exfalso;omega)
    | exact Yn _
    | exact CU _ (by omega) (by omega)
    | exact Ys (CN _ (by omega) (by omega))
    | exact hs' _ _ (by omega) (Nat.sub_le_sub_right ij 1) (by omega)
    | exact hs' _ _ (by omega) (by omega) (by omega)
end
noncomputable def sZ:Bool->Keyed->Array Keyed->Nat->Nat->Nat->StateT SortSt Sem (Option Nat):=sortPriv% PySem.Builtin.gallop
noncomputable def oA (left:Bool)(k:Keyed)(arr:Array Keyed)(base i:Nat):StateT SortSt Sem (Option Bool):=do
 let x <-elem' arr (base+i)
 if left then lt' x k else return (<-lt' k x).map (!·)
section
variable {prog:Program}{w:World}{A:Around}{E:Value->Shared->Prop}{s:Shared}{a₀:Array Keyed}{key:Keyed->Int}{kd:SortKind}
noncomputable def iw (left:Bool)(k x:Int):Bool:=if left then decide (x<k) else !decide (k<x)
theorem ng {left:Bool}{k:Keyed}{arr:Array Keyed}{base i:Nat}{st:SortSt}{Q:Option Bool->SortSt->Prop}(hL:iT prog w A E s a₀ key kd)(i5:kindOf st=kd)(ha:∀p∈arr.toList,p∈a₀.toList)(hk:k∈a₀.toList)
  (hi:base+i<arr.size) (h:Q (some (iw left (key k) (ky key arr (base+i)))) st):wpS (model prog w) A E s (oA left k arr base i) Q st:=by
 unfold oA
 refine wpS_bind (h7 hi fun p e =>?_)
 have hp:=ha p (Array.mem_toList_iff.mpr (Array.mem_of_getElem? e))
 rw[di e] at h
 cases left with
 | true=>exact hL _ _ _ _ hp hk i5 h
 | false=>
  refine wpS_bind (m:=lt' k p) (hL _ _ _ _ hk hp i5 ?_)
  exact wpS_pure h
theorem wG {left:Bool}{k x y:Int}(h:x<=y)(hy:iw left k y=true):iw left k x=true:=by
 unfold iw at *
 cases left
 ·simp at hy ⊢;omega
 ·simp at hy ⊢;omega
def MV (left:Bool)(k:Int)(key:Keyed->Int)(arr:Array Keyed)(base n r:Nat):Prop:=
 r<=n/\(∀i,i<r->iw left k (ky key arr (base+i))=true)/\∀i,r<=i->i<n->iw left k (ky key arr (base+i))=false
theorem sA {α γ:Type}{m:StateT SortSt Sem α}{Q: α->SortSt->Prop}{st:SortSt}(V: γ->StateT SortSt Sem α)(G: γ->Prop)(hV:∀z,G z->wpS (model prog w) A E s (V z) Q st)
  (hm:(∀z,G z->wpS (model prog w) A E s (V z) Q st)->wpS (model prog w) A E s m Q st):wpS (model prog w) A E s m Q st:=hm hV
section
variable {α:Type}{c:Prop}[Decidable c]{m n:StateT SortSt Sem α}{Q: α->SortSt->Prop}{st:SortSt}
theorem K7 (h:c)(hm:wpS (model prog w) A E s m Q st):wpS (model prog w) A E s (if c then m else n) Q st:=by rw[if_pos h];exact hm
theorem HJ (h:¬c)(hm:wpS (model prog w) A E s n Q st):wpS (model prog w) A E s (if c then m else n) Q st:=by rw[if_neg h];exact hm
theorem lZ (h1:c->wpS (model prog w) A E s m Q st)(h2:¬c->wpS (model prog w) A E s n Q st):wpS (model prog w) A E s (if c then m else n) Q st:=by
 split
 ·exact h1 ‹_›
 ·exact h2 ‹_›
theorem nL {x y:Nat}(h1:x=y->wpS (model prog w) A E s m Q st)(h2:¬x=y->wpS (model prog w) A E s n Q st):wpS (model prog w) A E s (if (x==y)=true then m else n) Q st:=
 lZ (fun z=>h1 (by simpa using z)) fun z=>h2 (by simpa using z)
end
theorem jM {left:Bool}{k:Keyed}{arr:Array Keyed}{base n hint:Nat}{st:SortSt}{Q:Option Nat->SortSt->Prop}(hL:iT prog w A E s a₀ key kd)(i5:kindOf st=kd)(ha:∀p∈arr.toList,p∈a₀.toList)(hk:k∈a₀.toList)
  (hs:Sg key arr base (base+n)) (hn:base+n<=arr.size) (hh:hint<n) (h:∀r,MV left (key k) key arr base n r->Q (some r) st):wpS (model prog w) A E s (sZ left k arr base n hint) Q st:=by
 have up:∀i j,i<=j->j<n->iw left (key k) (ky key arr (base+j))=true->iw left (key k) (ky key arr (base+i))=true:=fun i j ij hj=>wG (hs _ _ (by omega) (by omega) (by omega))
 have dn:∀i j,i<=j->j<n->iw left (key k) (ky key arr (base+i))=false->iw left (key k) (ky key arr (base+j))=false:=fun i j ij hj e=>by
  cases e2:iw left (key k) (ky key arr (base+j)) with
  | false=>rfl
  | true=>rw[up i j ij hj e2] at e;cases e
 refine wpS_bind (m:=oA left k arr base hint) (ng hL i5 ha hk (by omega) ?_)
 dsimp -zeta only
 extract_lets jp mo1 mo2
 refine sA (fun z:Nat×Nat×Nat×Nat=>jp () z.1 z.2.1 z.2.2.1 z.2.2.2) (fun z=>(z.2.2.1<=z.2.2.2/\z.2.2.2<=n)/\(∀i,i<z.2.2.1->iw left (key k) (ky key arr (base+i))=true)/\(∀i,z.2.2.2<=i->i<n->iw left (key k) (ky key arr (base+i))=false)) (fun z hz =>?_) fun H =>?_
 ·obtain⟨z1,z2,lo0,CF⟩:=z
  refine wpS_bind (wpS_mono (wpS_forRange (I:=fun x c aE=>aE=st/\∃lo hi,c=(none,lo,hi)/\lo<=hi/\hi<=n/\hi+x<=n+lo/\(∀i,i<lo->iw left (key k) (ky key arr (base+i))=true)/\(∀i,hi<=i->i<n->iw left (key k) (ky key arr (base+i))=false))
   (Q:=fun c aE=>aE=st/\∃r,c=(none,r,r)/\MV left (key k) key arr base n r) ?stepA ?finA ⟨rfl,lo0,CF,rfl,hz.1.1,hz.1.2,Ju hz.1.2 (Um _ _),hz.2.1,hz.2.2⟩) ?postA)
  case postA=>
   intro c aE
   refine ae.go ?_
   rintro rfl r rfl g
   exact wpS_pure (h r g)
  case finA=>
   intro c aE
   refine ae.go ?_
   rintro rfl lo hi rfl b1 b2 b3 b4 b5
   have:lo=hi:=by omega
   subst this
   exact⟨rfl,lo,rfl,b2,b4,b5⟩
  case stepA=>
   intro x c aE _ hx
   refine ae.go ?_
   rintro rfl lo hi rfl b1 b2 b3 b4 b5
   dsimp only
   refine lZ (fun hge =>?_) fun hge =>?_
   ·have:lo=hi:=by omega
    subst this
    exact wpS_pure ⟨rfl,lo,rfl,b2,b4,b5⟩
   ·have y1:lo<=lo+(hi-lo) / 2:=Um _ _
    have y2:lo+(hi-lo) / 2<hi:=by omega
    generalize lo+(hi-lo) / 2=m at y1 y2 ⊢
    refine wpS_bind (ng hL i5 ha hk (by omega) ?_)
    cases e:iw left (key k) (ky key arr (base+m)) with
    | true=>
     dsimp only
     refine K7 rfl ?_
     exact wpS_pure ⟨rfl,_,_,rfl,y2,b2,by omega,fun i iV=>up i _ (Wm iV) (by omega) e,b5⟩
    | false=>
     dsimp only
     refine HJ Jm ?_
     exact wpS_pure ⟨rfl,_,_,rfl,y1,by omega,by omega,b4,fun i i1 i2=>dn _ i i1 i2 e⟩
 have eN:hint+(n-hint)=n:=Y9 (Uy hh)
 refine lZ (fun e =>?_) fun e =>?_
 ·refine wpS_bind (wpS_mono (wpS_forRange (I:=fun x c aE=>aE=st/\∃last ofs,c=(none,last,ofs)/\last<ofs/\x+1<=ofs/\last<n-hint/\iw left (key k) (ky key arr (base+(hint+last)))=true)
   (Q:=fun c aE=>aE=st/\∃last ofs,c=(none,last,ofs)/\last<ofs/\last<n-hint/\iw left (key k) (ky key arr (base+(hint+last)))=true/\(n-hint<=ofs∨iw left (key k) (ky key arr (base+(hint+ofs)))=false)) ?step ?fin ⟨rfl,0,1,rfl,by omega,by omega,by omega,e⟩) ?post)
  case post=>
   intro c gw
   refine ae.go ?_
   rintro rfl last ofs rfl c1 c2 c3 c4
   refine H (last,ofs,hint+last+1,hint+min ofs (n-hint)) ⟨⟨U8 (Nat.le_min.mpr ⟨c1,c2⟩) hint,Ju (U8 (Nat.min_le_right _ _) _) (Yy eN)⟩,fun i hi=>up i (hint+last) (Wm hi) (Nat.lt_of_lt_of_eq (Nat.add_lt_add_left c2 hint) eN) c3,fun i i1 i2 =>?_⟩
   have i1:hint+min ofs (n-hint)<=i:=i1
   rcases Nat.le_total (n-hint) ofs with t|t
   ·rw[Nat.min_eq_right t,eN] at i1
    exact absurd i2 (Nat.not_lt.mpr i1)
   ·rw[Y0 t] at i1
    rcases c4 with c4|c4
    ·rw[Nat.le_antisymm t c4,eN] at i1
     exact absurd i2 (Nat.not_lt.mpr i1)
    ·exact dn (hint+ofs) i i1 i2 c4
  case fin=>
   intro c aE
   refine ae.go ?_
   rintro rfl last ofs rfl c1 c2 c3 c4
   exact⟨rfl,last,ofs,rfl,c1,c3,c4,.inl (by omega)⟩
  case step=>
   intro x c aE _ hx
   refine ae.go ?_
   rintro rfl last ofs rfl c1 c2 c3 c4
   dsimp only[mo1]
   refine lZ (fun hge=>wpS_pure ⟨rfl,last,ofs,rfl,c1,c3,c4,.inl hge⟩) fun hge =>?_
   refine wpS_bind (ng hL i5 ha hk (by omega) ?_)
   cases e2:iw left (key k) (ky key arr (base+(hint+ofs))) with
   | true=>
    exact wpS_pure ⟨rfl,ofs,2*ofs+1,rfl,by omega,by omega,by omega,e2⟩
   | false=>
    exact wpS_pure ⟨rfl,last,ofs,rfl,c1,c3,c4,.inr e2⟩
 ·have e:=Bool.eq_false_iff.mpr e
  refine wpS_bind (wpS_mono (wpS_forRange (I:=fun x c aE=>aE=st/\∃last ofs,c=(none,last,ofs)/\last<ofs/\x+1<=ofs/\last<hint+1/\iw left (key k) (ky key arr (base+(hint-last)))=false)
   (Q:=fun c aE=>aE=st/\∃last ofs,c=(none,last,ofs)/\last<ofs/\last<hint+1/\iw left (key k) (ky key arr (base+(hint-last)))=false/\(hint+1<=ofs∨(ofs<=hint/\iw left (key k) (ky key arr (base+(hint-ofs)))=true))) ?step ?fin ⟨rfl,0,1,rfl,by omega,by omega,by omega,e⟩) ?post)
  case post=>
   intro c gw
   refine ae.go ?_
   rintro rfl last ofs rfl c1 c2 c3 c4
   refine H (last,ofs,hint+1-min ofs (hint+1),hint-last) ⟨⟨?_,Ju (Nat.sub_le _ _) (Uy hh)⟩,fun i hi =>?_,fun i i1 i2=>dn (hint-last) i i1 i2 c3⟩
   ·show hint+1-min ofs (hint+1)<=hint-last
    rw[<-Nat.succ_sub_succ hint last]
    exact Nat.sub_le_sub_left (Nat.le_min.mpr ⟨c1,c2⟩) _
   have hi:i<hint+1-min ofs (hint+1):=hi
   rcases c4 with c4|⟨c4,c5⟩
   ·rw[Nat.min_eq_right c4,Nat.sub_self] at hi
    exact absurd hi (Nat.not_lt_zero _)
   ·rw[Y0 (Nat.le_succ_of_le c4),Nat.succ_sub c4] at hi
    exact up i (hint-ofs) (Wm hi) (Ue (Nat.sub_le _ _) hh) c5
  case fin=>
   intro c aE
   refine ae.go ?_
   rintro rfl last ofs rfl c1 c2 c3 c4
   exact⟨rfl,last,ofs,rfl,c1,c3,c4,.inl (by omega)⟩
  case step=>
   intro x c aE _ hx
   refine ae.go ?_
   rintro rfl last ofs rfl c1 c2 c3 c4
   dsimp only[mo2]
   refine lZ (fun hge=>wpS_pure ⟨rfl,last,ofs,rfl,c1,c3,c4,.inl hge⟩) fun hge =>?_
   refine wpS_bind (ng hL i5 ha hk (by omega) ?_)
   cases e2:iw left (key k) (ky key arr (base+(hint-ofs))) with
   | true=>
    exact wpS_pure ⟨rfl,last,ofs,rfl,c1,c3,c4,.inr ⟨by omega,e2⟩⟩
   | false=>
    exact wpS_pure ⟨rfl,ofs,2*ofs+1,rfl,by omega,by omega,by omega,e2⟩
end
noncomputable def BQ:Nat->StateT SortSt Sem Unit:=sortPriv% PySem.Builtin.setMinGallop
noncomputable def BS (st:SortSt)(g:Nat):SortSt:=SortSt.mk' (kindOf st) (arrOf st) (pendingOf st) g (failedOf st)
noncomputable def wR:Array Keyed->Array Keyed->StateT SortSt Sem (Array Keyed):=sortPriv% PySem.Builtin.mergeLo
section
variable {prog:Program}{w:World}{A:Around}{E:Value->Shared->Prop}{s:Shared}{a₀:Array Keyed}{key:Keyed->Int}{kd:SortKind}
def Sl (key:Keyed->Int)(l:List Keyed):Prop:=l.Pairwise fun x y=>key x<=key y
structure Kp (st aE:SortSt):Prop where
 kind:kindOf aE=kindOf st
 arr:arrOf aE=arrOf st
 pend:pendingOf aE=pendingOf st
 failed:failedOf aE=failedOf st
theorem Kp.refl (st:SortSt):Kp st st:=⟨rfl,rfl,rfl,rfl⟩
theorem Kp.Pz {st aE:SortSt}(h:Kp st aE)(g:Nat):Kp st (BS aE g):=⟨h.kind,h.arr,h.pend,h.failed⟩
theorem ix {xs:Array Keyed}{i:Nat}{x:Keyed}(h:xs.toList[i]? = some x):xs[i]? = some x:=by rw[<-h,Uh]
theorem gE {xs:Array Keyed}{i:Nat}{x:Keyed}(h:x∈xs.toList.drop i):∃j,i<=j/\j<xs.size/\ky key xs j=key x:=by
 obtain⟨j,hj⟩:=U5.mp h
 rw[List.getElem?_drop] at hj
 have hl:=(Jy.mp hj).1
 rw[Jw] at hl
 exact⟨i+j,by omega,hl,di (ix hj)⟩
theorem gF {xs:Array Keyed}{i:Nat}{x:Keyed}(h:x∈xs.toList.take i):∃j,j<i/\j<xs.size/\ky key xs j=key x:=by
 obtain⟨j,hj⟩:=U5.mp h
 have hl:=(Jy.mp hj).1
 rw[J6,Jw] at hl
 rw[List.getElem?_take_of_lt (by omega)] at hj
 exact⟨j,by omega,by omega,di (ix hj)⟩
theorem oh {xs:Array Keyed}{i k:Nat}{x:Keyed}(h:x∈(xs.toList.drop i).take k):∃j,i<=j/\j<i+k/\j<xs.size/\ky key xs j=key x:=by
 obtain⟨j,hj⟩:=U5.mp h
 have hl:=(Jy.mp hj).1
 rw[J6,Uw,Jw] at hl
 rw[List.getElem?_take_of_lt (by omega),List.getElem?_drop] at hj
 exact⟨i+j,by omega,by omega,by omega,di (ix hj)⟩
theorem CP {xs:Array Keyed}{i:Nat}{p:Keyed}(h:xs[i]? = some p):(xs.toList.drop i).take 1=[p]:=by
 rw[<-Uh] at h
 obtain⟨hl,e⟩:=Jy.mp h
 rw[Y1 hl,e];rfl
theorem iq {xs:Array Keyed}(h:Sg key xs 0 xs.size):Sl key xs.toList:=by
 refine Yc.mpr fun i j hi hj ij =>?_
 rw[Jw] at hi hj
 have:=h i j (by omega) (by omega) hj
 rwa[di (getElem?_pos xs i hi),di (getElem?_pos xs j hj)] at this
structure Mg (key:Keyed->Int)(a b:Array Keyed)(out:List Keyed)(ia ib:Nat):Prop where
 ha:ia<=a.size
 hb:ib<=b.size
 sa:Sg key a 0 a.size
 sb:Sg key b 0 b.size
 perm:(out++(a.toList.drop ia++b.toList.drop ib)).Perm (a.toList++b.toList)
 so:Sl key out
 la:∀x∈out,∀y∈a.toList.drop ia,key x<=key y
 lb:∀x∈out,∀y∈b.toList.drop ib,key x<=key y
theorem Mg.swap {a b:Array Keyed}{out:List Keyed}{ia ib:Nat}(h:Mg key a b out ia ib):Mg key b a out ib ia:=
 ⟨h.hb,h.ha,h.sb,h.sa,((Yq).append_left out).trans (h.perm.trans Yq),h.so,h.lb,h.la⟩
theorem Mg.tA {a b:Array Keyed}{out:List Keyed}{ia ib k:Nat}(h:Mg key a b out ia ib)(hk:ia+k<=a.size)(q:∀j,ia<=j->j<ia+k->ky key a j<=ky key b ib):Mg key a b (out++(a.toList.drop ia).take k) (ia+k) ib:=by
 have e:a.toList.drop ia=(a.toList.drop ia).take k++a.toList.drop (ia+k):=by
  rw[<-List.drop_drop,Yi]
 have sd:Sl key (a.toList.drop ia):=(iq h.sa).sublist (Wn _ _)
 rw[e] at sd
 obtain⟨s1,s2,s3⟩:=Ug.mp sd
 refine⟨hk,h.hb,h.sa,h.sb,?_,?_,?_,?_⟩
 ·have p:=h.perm
  rw[e] at p
  rw[Uv] at p ⊢
  exact p
 ·refine Ug.mpr ⟨h.so,s1,fun x hx y hy=>h.la x hx y (List.mem_of_mem_take hy)⟩
 ·intro x hx y hy
  rcases Ji.mp hx with hx|hx
  ·exact h.la x hx y (by rw[e];exact Jj _ hy)
  ·exact s3 x hx y hy
 ·intro x hx y hy
  rcases Ji.mp hx with hx|hx
  ·exact h.lb x hx y hy
  ·obtain⟨j,j1,j2,j3,e1⟩:=oh (key:=key) hx
   obtain⟨i,i1,i2,e2⟩:=gE (key:=key) hy
   have:=q j j1 j2
   have:=h.sb ib i (by omega) i1 i2
   omega
theorem Mg.tB {a b:Array Keyed}{out:List Keyed}{ia ib k:Nat}(h:Mg key a b out ia ib)(hk:ib+k<=b.size)(q:∀j,ib<=j->j<ib+k->ky key b j<=ky key a ia):Mg key a b (out++(b.toList.drop ib).take k) ia (ib+k):=
 (h.swap.tA hk q).swap
theorem Mg.mj {a b out:Array Keyed}{ia ib:Nat}{p:Keyed}(h:Mg key a b out.toList ia ib)(e:a[ia]? = some p)(hk:ia<a.size)(q:ky key a ia<=ky key b ib):Mg key a b (out.push p).toList (ia+1) ib:=by
 rw[Yl,<-CP e]
 exact h.tA hk fun j j1 j2=>by rw[show j=ia by omega];exact q
theorem Mg.mQ {a b out:Array Keyed}{ia ib:Nat}{p:Keyed}(h:Mg key a b out.toList ia ib)(e:b[ib]? = some p)(hk:ib<b.size)(q:ky key b ib<=ky key a ia):Mg key a b (out.push p).toList ia (ib+1):=by
 rw[Yl,<-CP e]
 exact h.tB hk fun j j1 j2=>by rw[show j=ib by omega];exact q
theorem ext_toList {xs:Array Keyed}{i k:Nat}(h:i+k<=xs.size):(xs.extract i (i+k)).toList=(xs.toList.drop i).take k:=by
 rw[Array.toList_extract,List.extract_eq_take_drop]
 congr 1;omega
theorem j0 {xs:Array Keyed}{i:Nat}:(xs.extract i xs.size).toList=xs.toList.drop i:=by
 rw[Array.toList_extract,List.extract_eq_take_drop]
 refine Wb ?_
 rw[Uw,Jw];omega
theorem Mg.MP {a b out:Array Keyed}{ia ib k:Nat}(h:Mg key a b out.toList ia ib)(hk:ia+k<=a.size)(q:∀j,ia<=j->j<ia+k->ky key a j<=ky key b ib):Mg key a b (out++a.extract ia (ia+k)).toList (ia+k) ib:=by
 rw[U1,ext_toList hk]
 exact h.tA hk q
theorem Mg.IM {a b out:Array Keyed}{ia ib k:Nat}(h:Mg key a b out.toList ia ib)(hk:ib+k<=b.size)(q:∀j,ib<=j->j<ib+k->ky key b j<=ky key a ia):Mg key a b (out++b.extract ib (ib+k)).toList ia (ib+k):=by
 rw[U1,ext_toList hk]
 exact h.tB hk q
def Good (key:Keyed->Int)(a b res:Array Keyed):Prop:=res.toList.Perm (a.toList++b.toList)/\Sl key res.toList
theorem Mg.done {a b out:Array Keyed}{ia ib:Nat}(h:Mg key a b out.toList ia ib)(q:ia=a.size∨ib=b.size):Good key a b (out++a.extract ia a.size++b.extract ib b.size):=by
 unfold Good
 rw[U1,U1,j0,j0,Uv]
 refine⟨h.perm,Ug.mpr ⟨h.so,Ug.mpr ⟨(iq h.sa).sublist (Wn _ _),(iq h.sb).sublist (Wn _ _),fun x hx y hy =>?_⟩,fun x hx y hy =>?_⟩⟩
 ·obtain⟨j,j1,j2,_⟩:=gE (key:=key) hx
  obtain⟨i,i1,i2,_⟩:=gE (key:=key) hy
  omega
 ·rcases Ji.mp hy with hy|hy
  ·exact h.la x hx y hy
  ·exact h.lb x hx y hy
theorem Mg.last {a b out:Array Keyed}{ia ib:Nat}(h:Mg key a b out.toList ia ib)(e:ia+1=a.size)(q:∀j,j<b.size->ky key b j<=ky key a (a.size-1)):Good key a b (out++b.extract ib b.size++a.extract ia a.size):=by
 unfold Good
 rw[U1,U1,j0,j0,Uv]
 refine⟨(Yq.append_left out.toList).trans h.perm,Ug.mpr ⟨h.so,Ug.mpr ⟨(iq h.sb).sublist (Wn _ _),(iq h.sa).sublist (Wn _ _),fun x hx y hy =>?_⟩,fun x hx y hy =>?_⟩⟩
 ·obtain⟨j,j1,j2,e1⟩:=gE (key:=key) hx
  obtain⟨i,i1,i2,e2⟩:=gE (key:=key) hy
  have:=q j j2
  rw[show a.size-1=i by omega] at this
  omega
 ·rcases Ji.mp hy with hy|hy
  ·exact h.lb x hx y hy
  ·exact h.la x hx y hy
theorem mW {k x:Int}(h:iw false k x=true):x<=k:=by unfold iw at h;simp at h;exact h
theorem nX {k x:Int}(h:iw false k x=false):k<x:=by unfold iw at h;simp at h;exact h
theorem jZ {k x:Int}(h:iw true k x=true):x<k:=by unfold iw at h;simp at h;exact h
theorem j9 {k x:Int}(h:iw true k x=false):k<=x:=by unfold iw at h;simp at h;exact h
end
section
variable {prog:Program}{w:World}{A:Around}{E:Value->Shared->Prop}{s:Shared}{a₀:Array Keyed}{key:Keyed->Int}{kd:SortKind}
theorem dC {α:Type}{xs:Array Keyed}{i:Nat}{f:Keyed->StateT SortSt Sem α}{Q: α->SortSt->Prop}{st:SortSt}(hi:i<xs.size)(h:∀p,xs[i]? = some p->wpS (model prog w) A E s (f p) Q st):wpS (model prog w) A E s (elem' xs i >>= f) Q st:=wpS_bind (h7 hi h)
theorem ltB {α:Type}{x y:Keyed}{f:Option Bool->StateT SortSt Sem α}{Q: α->SortSt->Prop}{st:SortSt}(hL:iT prog w A E s a₀ key kd)(hx:x∈a₀.toList)(hy:y∈a₀.toList)(hk:kindOf st=kd)(h:wpS (model prog w) A E s (f (some (decide (key x<key y)))) Q st):wpS (model prog w) A E s (lt' x y >>= f) Q st:=wpS_bind (hL _ _ _ _ hx hy hk h)
theorem ke {α:Type}{left:Bool}{k:Keyed}{arr:Array Keyed}{base n hint:Nat}{st:SortSt}{f:Option Nat->StateT SortSt Sem α}{Q: α->SortSt->Prop}(hL:iT prog w A E s a₀ key kd)(i5:kindOf st=kd)(ha:∀p∈arr.toList,p∈a₀.toList)(hk:k∈a₀.toList)
  (hs:Sg key arr base (base+n)) (hn:base+n<=arr.size) (hh:hint<n) (h:∀r,MV left (key k) key arr base n r->wpS (model prog w) A E s (f (some r)) Q st):wpS (model prog w) A E s (sZ left k arr base n hint >>= f) Q st:=wpS_bind (jM hL i5 ha hk hs hn hh h)
theorem G9 {α β γ δ ε ζ:Type}{P: α × β × γ × δ × ε × ζ->Prop}(h:∀a b c d e f,P (a,b,c,d,e,f)):∀x,P x:=fun⟨a,b,c,d,e,f⟩=>h a b c d e f
theorem HF {α β γ δ ε ζ η:Type}{P: α × β × γ × δ × ε × ζ × η->Prop}(h:∀a b c d e f g,P (a,b,c,d,e,f,g)):∀x,P x:=fun⟨a,b,c,d,e,f,g⟩=>h a b c d e f g
theorem ux {α:Type}{g:Nat}{f:Unit->StateT SortSt Sem α}{st cS:SortSt}{Q: α->SortSt->Prop}(kp:Kp st cS)(h:∀jR,Kp st jR->wpS (model prog w) A E s (f ()) Q jR):wpS (model prog w) A E s (BQ g >>= f) Q cS:=by
 exact wpS_bind (m:=BQ g) (wpS_modify (f:=fun s=>BS s g) (h _ (kp.Pz g)))
theorem mem_of {xs:Array Keyed}{i:Nat}{p:Keyed}(h:xs[i]? = some p):p∈xs.toList:=Array.mem_toList_iff.mpr (Array.mem_of_getElem? h)
theorem tR {xs:Array Keyed}{i j:Nat}(h:Sg key xs 0 j):Sg key xs i j:=fun p q _ h2 h3=>h p q (Us _) h2 h3
abbrev Mb (key:Keyed->Int)(a b:Array Keyed)(st:SortSt)(x:Nat)(c:Option (Array Keyed)×Array Keyed×Nat×Nat×Nat)(aE:SortSt):Prop:=Kp st aE/\∃out ia ib g,c=(none,out,ia,ib,g)/\Mg key a b out.toList ia ib/\x+1<=ia+ib/\ia+1<a.size/\ib<b.size
abbrev Mk (key:Keyed->Int)(a b:Array Keyed)(st:SortSt)(c:Option (Array Keyed)×Array Keyed×Nat×Nat×Nat)(aE:SortSt):Prop:=Kp st aE/\∃r,c.1=some r/\Good key a b r
abbrev LW (key:Keyed->Int)(a b:Array Keyed)(gw:SortSt)(x:Nat)(y:Nat)(c:Option (Array Keyed)×Array Keyed×Nat×Nat×Nat×Nat)(aE:SortSt):Prop:=aE=gw/\∃out ia ib p q,c=(none,out,ia,ib,p,q)/\Mg key a b out.toList ia ib/\x+1+y<=ia+ib/\ia+1<a.size/\ib<b.size
abbrev LQ (key:Keyed->Int)(a b:Array Keyed)(gw:SortSt)(x:Nat)(c:Option (Array Keyed)×Array Keyed×Nat×Nat×Nat×Nat)(aE:SortSt):Prop:=aE=gw/\((∃r,c.1=some r/\Good key a b r)∨(c.1=none/\Mg key a b c.2.1.toList c.2.2.1 c.2.2.2.1/\x+2<=c.2.2.1+c.2.2.2.1/\c.2.2.1+1<a.size/\c.2.2.2.1<b.size))
abbrev Kn (key:Keyed->Int)(a b:Array Keyed)(st:SortSt)(x:Nat)(y:Nat)(c:Option (Array Keyed)×Array Keyed×Nat×Nat×Nat×Nat×Nat)(aE:SortSt):Prop:=Kp st aE/\∃out ia ib g p q,c=(none,out,ia,ib,g,p,q)/\Mg key a b out.toList ia ib/\x+2<=ia+ib/\ia+1<a.size/\ib<b.size
abbrev Kb (key:Keyed->Int)(a b:Array Keyed)(st:SortSt)(x:Nat)(c:Option (Array Keyed)×Array Keyed×Nat×Nat×Nat×Nat×Nat)(aE:SortSt):Prop:=Kp st aE/\((∃r,c.1=some r/\Good key a b r)∨(c.1=none/\Mg key a b c.2.1.toList c.2.2.1 c.2.2.2.1/\x+2<=c.2.2.1+c.2.2.2.1/\c.2.2.1+1<a.size/\c.2.2.2.1<b.size))
theorem FQ {a b:Array Keyed}{st:SortSt}{Q:Array Keyed->SortSt->Prop}(hL:iT prog w A E s a₀ key kd)(hk:kindOf st=kd)(yZ:∀p∈a.toList,p∈a₀.toList)(vQ:∀p∈b.toList,p∈a₀.toList)
  (v5:Sg key a 0 a.size) (Bn:Sg key b 0 b.size) (Om:1<=a.size) (xo:1<=b.size) (h0:ky key b 0<=ky key a 0) (hl:∀j,j<b.size->ky key b j<=ky key a (a.size-1))
  (h:∀res aE,Kp st aE->Good key a b res->Q res aE):wpS (model prog w) A E s (wR a b) Q st:=by
 refine wpS_bind (m:=liftM (rule "list.sort.merge-lo")) (wpS_lift (wpAny_rule ⟨rfl,?_⟩))
 refine dC xo fun p e =>?_
 have mz:Mg key a b (#[]:Array Keyed).toList 0 0:=⟨Us _,Us _,v5,Bn,by simp,.nil,(fun _ h=>by cases h),(fun _ h=>by cases h)⟩
 have m0:Mg key a b (#[p]:Array Keyed).toList 0 1:=mz.mQ e xo h0
 refine nL (fun z1=>wpS_pure (h _ _ (Kp.refl _) (m0.done (.inr z1)))) fun z1 =>?_
 refine nL (fun z2=>wpS_pure (h _ _ (Kp.refl _) (m0.last z2 hl))) fun z2 =>?_
 refine wpS_bind (wpS_get ?_)
 refine wpS_bind (wpS_mono (wpS_forRange
  (I:=Mb key a b st)
  (Q:=Mk key a b st) ?step ?fin ⟨Kp.refl _,_,_,_,_,rfl,m0,by omega,by omega,by omega⟩) ?post)
 case post=>
  rintro⟨c1,c⟩ aE ⟨kp,r,e1,g⟩
  cases e1
  exact wpS_pure (h _ _ kp g)
 case fin=>
  intro c aE
  refine ae.go ?_
  rintro kp out ia ib g rfl mm h1 h2 h3
  rw[Nat.zero_max] at h1
  omega
 case step=>
  intro x c gw _ hx
  refine ae.go ?_
  rintro kp1 out ia ib g rfl mm h1 h2 h3
  dsimp -zeta only
  refine wpS_bind (wpS_mono (wpS_forRange
   (I:=LW key a b gw x)
   (Q:=LQ key a b gw x) ?mO ?fin1 ⟨rfl,out,ia,ib,_,_,rfl,mm,by omega,h2,h3⟩) ?post1)
  case fin1=>
   intro c aE
   refine ae.go ?_
   rintro rfl out ia ib p q rfl mm h1 h2 h3
   exact⟨rfl,.inr ⟨rfl,mm,by rw[Nat.zero_max] at h1;show x+2<=ia+ib;omega,h2,h3⟩⟩
  case mO=>
   intro y c aE _ hy
   refine ae.go ?_
   rintro rfl out ia ib p q rfl mm h1 h2 h3
   dsimp only
   refine dC h3 fun p1 e1=>dC (Wo h2) fun p2 e2 =>?_
   refine ltB hL (vQ _ (mem_of e1)) (yZ _ (mem_of e2)) (kp1.kind.trans hk) ?_
   rw[<-di (key:=key) e1,<-di (key:=key) e2]
   by_cases bN:ky key b ib<ky key a ia
   ·rw[decide_eq_true bN]
    dsimp only
    refine K7 rfl ?_
    refine dC h3 fun p3 e3 =>?_
    have m1:=mm.mQ e3 h3 (Ys bN)
    refine nL (fun z3=>wpS_pure ⟨rfl,.inl ⟨_,rfl,m1.done (.inr z3)⟩⟩) fun z3 =>?_
    refine lZ (fun z4=>wpS_pure ⟨rfl,.inr ⟨rfl,m1,by show x+2<=ia+(ib+1);omega,h2,Ut h3 z3⟩⟩) fun z4 =>?_
    exact wpS_pure ⟨rfl,_,_,_,_,_,rfl,m1,by omega,h2,Ut h3 z3⟩
   ·rw[decide_eq_false bN]
    dsimp only
    refine HJ Jm ?_
    refine dC (Wo h2) fun p3 e3 =>?_
    have m1:=mm.mj e3 (by omega) (Int.not_lt.mp bN)
    refine nL (fun z3=>wpS_pure ⟨rfl,.inl ⟨_,rfl,m1.last z3 hl⟩⟩) fun z3 =>?_
    refine lZ (fun z4=>wpS_pure ⟨rfl,.inr ⟨rfl,m1,by show x+2<=ia+1+ib;omega,Ut h2 z3,h3⟩⟩) fun z4 =>?_
    exact wpS_pure ⟨rfl,_,_,_,_,_,rfl,m1,by omega,Ut h2 z3,h3⟩
  refine G9 fun c1 out ia ib p q =>?_
  intro bQ hc
  have es:bQ=gw:=hc.1
  subst es
  refine Or.elim hc.2 (fun gg =>?_) fun gg =>?_
  ·refine ae.el gg _ ?_
   intro r e1 gd
   have e1:c1=some r:=e1
   subst e1
   exact wpS_pure ⟨kp1,r,rfl,gd⟩
  have e1:c1=none:=gg.1
  have mm:Mg key a b out.toList ia ib:=gg.2.1
  have h1:x+2<=ia+ib:=gg.2.2.1
  have h2:ia+1<a.size:=gg.2.2.2.1
  have h3:ib<b.size:=gg.2.2.2.2
  clear gg hc
  subst e1
  dsimp -zeta only
  refine wpS_bind (wpS_lift (wpAny_rule ⟨rfl,?_⟩))
  refine wpS_bind (wpS_mono (wpS_forRange
   (I:=Kn key a b st x)
   (Q:=Kb key a b st x) ?step2 ?fin2 ⟨kp1,out,ia,ib,_,_,_,rfl,mm,by omega,h2,h3⟩) ?post2)
  case fin2=>
   intro c aE
   refine ae.go ?_
   rintro kp out ia ib g p q rfl mm h1 h2 h3
   exact⟨kp,.inr ⟨rfl,mm,h1,h2,h3⟩⟩
  case post2=>
   refine HF fun c1 out ia ib g p q =>?_
   intro cS hc
   have kp:Kp st cS:=hc.1
   refine Or.elim hc.2 (fun gg =>?_) fun gg =>?_
   ·refine ae.el gg _ ?_
    intro r e1 gd
    have e1:c1=some r:=e1
    subst e1
    exact wpS_pure ⟨kp,r,rfl,gd⟩
   have e1:c1=none:=gg.1
   have mm:Mg key a b out.toList ia ib:=gg.2.1
   have h1:x+2<=ia+ib:=gg.2.2.1
   have h2:ia+1<a.size:=gg.2.2.2.1
   have h3:ib<b.size:=gg.2.2.2.2
   clear gg hc
   subst e1
   dsimp only
   exact ux kp fun jR kk=>wpS_pure ⟨kk,_,_,_,_,rfl,mm,by omega,h2,h3⟩
  case step2=>
   intro y c cS _ hy
   refine ae.go ?_
   rintro kp out ia ib g p q rfl mm h1 h2 h3
   dsimp -zeta only
   extract_lets s1 o1 s2 i1 s3 i2 s4 mg s5 ac bc ib1 jp mg1
   refine sA (fun z:Nat=>jp () z) (fun _=>True) (fun g' _ =>?_) fun H =>?_
   rotate_left
   ·exact lZ (fun _=>H _ trivial) fun _=>H _ trivial
   refine ux kp fun jR kk =>?_
   dsimp -zeta only [s1,o1,s2,i1,s3,i2,s4,mg,s5,ac,bc,ib1]
   have Gn:kindOf jR=kd:=kk.kind.trans hk
   have eA:ia+(a.size-ia)=a.size:=Y9 (Uy (Wo h2))
   refine dC h3 fun p1 e1 =>?_
   refine ke hL Gn yZ (vQ _ (mem_of e1)) (by rw[eA];exact tR v5) (Yy eA) (by omega) fun k1 g1 =>?_
   obtain⟨g11,g12,g13⟩:=g1
   rw[<-di (key:=key) e1] at g12 g13
   dsimp -zeta only
   extract_lets ac2 jp2 o2 i3
   refine sA (fun z:Array Keyed×Nat=>jp2 () z.1 z.2) (fun z=>Mg key a b z.1.toList z.2 ib/\ia<=z.2/\z.2+1<a.size/\ky key b ib<=ky key a z.2) (fun z hz =>?_) fun H =>?_
   rotate_left
   ·refine lZ (fun ka =>?_) fun ka =>?_
    ·have IP:k1>0:=ka
     have kA:ia+k1<=a.size:=Ju (U8 g11 ia) (Yy eA)
     have m1:=mm.MP (k:=k1) kA (fun j j1 j2=>by have:=mW (g12 (j-ia) (Nat.sub_lt_left_of_lt_add j1 j2));rw[Y9 j1] at this;exact this)
     refine nL (fun z1=>wpS_pure ⟨kk,.inl ⟨_,rfl,m1.last z1 hl⟩⟩) fun z1 =>?_
     refine nL (fun z2=>wpS_pure ⟨kk,.inl ⟨_,rfl,m1.done (.inl z2)⟩⟩) fun z2 =>?_
     exact H (o2,i3) ⟨m1,Um _ _,Ut (Ut kA z2) z1,Ys (nX (g13 k1 (Jf _) (by omega)))⟩
    ·exact H (out,ia) ⟨mm,Jf _,h2,Ys (nX (g13 0 (by omega) (by omega)))⟩
   obtain⟨out2,ia2⟩:=z
   have m1:Mg key a b out2.toList ia2 ib:=hz.1
   have n1:ia<=ia2:=hz.2.1
   have n2:ia2+1<a.size:=hz.2.2.1
   have n3:ky key b ib<=ky key a ia2:=hz.2.2.2
   clear hz
   refine dC h3 fun p2 e2 =>?_
   have m2:=m1.mQ e2 h3 n3
   dsimp -zeta only [ac2]
   extract_lets o3
   refine nL (fun z3=>wpS_pure ⟨kk,.inl ⟨_,rfl,m2.done (.inr z3)⟩⟩) fun z3 =>?_
   have eB:ib+1+(b.size-(ib+1))=b.size:=Y9 h3
   have h4:ib+1<b.size:=Ut h3 z3
   refine dC (Wo n2) fun p3 e3 =>?_
   refine ke hL Gn vQ (yZ _ (mem_of e3)) (by rw[eB];exact tR Bn) (Yy eB) (Nat.sub_pos_of_lt h4) fun k2 g2 =>?_
   obtain⟨g21,g22,g23⟩:=g2
   rw[<-di (key:=key) e3] at g22 g23
   dsimp -zeta only
   extract_lets bc2 jp3 o4 i4
   refine sA (fun z:Array Keyed×Nat=>jp3 () z.1 z.2) (fun z=>Mg key a b z.1.toList ia2 z.2/\ib<=z.2/\z.2<b.size/\ky key a ia2<=ky key b z.2) (fun z hz =>?_) fun H =>?_
   rotate_left
   ·refine lZ (fun kz =>?_) fun kz =>?_
    ·have kB:ib+1+k2<=b.size:=Ju (U8 g21 _) (Yy eB)
     have m3:=m2.IM (k:=k2) kB (fun j j1 j2=>by have:=jZ (g22 (j-(ib+1)) (Nat.sub_lt_left_of_lt_add j1 j2));rw[Y9 j1] at this;exact Ys this)
     refine nL (fun z4=>wpS_pure ⟨kk,.inl ⟨_,rfl,m3.done (.inr z4)⟩⟩) fun z4 =>?_
     exact H (o4,i4) ⟨m3,Ju (Yv _) (Um _ _),Ut kB z4,j9 (g23 k2 (Jf _) (by omega))⟩
    ·exact H (o3,ib+1) ⟨m2,Yv _,h4,j9 (g23 0 (by omega) (Nat.sub_pos_of_lt h4))⟩
   obtain⟨out3,ib3⟩:=z
   have m3:Mg key a b out3.toList ia2 ib3:=hz.1
   have n4:ib<=ib3:=hz.2.1
   have n5:ib3<b.size:=hz.2.2.1
   have n6:ky key a ia2<=ky key b ib3:=hz.2.2.2
   clear hz
   refine dC (Wo n2) fun p4 e4 =>?_
   have m4:=m3.mj e4 (by omega) n6
   dsimp only[bc2]
   refine nL (fun z5=>wpS_pure ⟨kk,.inl ⟨_,rfl,m4.last z5 hl⟩⟩) fun z5 =>?_
   refine lZ (fun _ =>?_) fun _ =>?_
   ·exact wpS_pure ⟨kk,.inr ⟨rfl,m4,by dsimp only;omega,Ut n2 z5,n5⟩⟩
   ·exact wpS_pure ⟨kk,_,_,_,_,_,_,rfl,m4,by omega,Ut n2 z5,n5⟩
end
noncomputable def wV:Array Keyed->Array Keyed->StateT SortSt Sem (Array Keyed):=sortPriv% PySem.Builtin.mergeHi
section
variable {prog:Program}{w:World}{A:Around}{E:Value->Shared->Prop}{s:Shared}{a₀:Array Keyed}{key:Keyed->Int}{kd:SortKind}
theorem Bv {xs:Array Keyed}{n:Nat}(hn:n<=xs.size)(h:Sg key xs 0 xs.size):Sg key xs 0 (0+n):=fun p q h1 h2 h3=>h p q h1 h2 (by omega)
structure Mh (key:Keyed->Int)(a b:Array Keyed)(out:List Keyed)(na nb:Nat):Prop where
 ha:na<=a.size
 hb:nb<=b.size
 sa:Sg key a 0 a.size
 sb:Sg key b 0 b.size
 perm:(a.toList.take na++b.toList.take nb++out.reverse).Perm (a.toList++b.toList)
 so:Sl key out.reverse
 la:∀x∈a.toList.take na,∀y∈out,key x<=key y
 lb:∀x∈b.toList.take nb,∀y∈out,key x<=key y
theorem Mh.swap {a b:Array Keyed}{out:List Keyed}{na nb:Nat}(h:Mh key a b out na nb):Mh key b a out nb na:=
 ⟨h.hb,h.ha,h.sb,h.sa,((Yq).append_right _).trans (h.perm.trans Yq),h.so,h.lb,h.la⟩
theorem yG {xs:Array Keyed}{t n:Nat}{x:Keyed}(h:x∈(xs.toList.take n).drop t):∃j,t<=j/\j<n/\j<xs.size/\ky key xs j=key x:=by
 rw[List.drop_take] at h
 obtain⟨j,j1,j2,j3,e⟩:=oh (key:=key) h
 exact⟨j,j1,by omega,j3,e⟩
theorem Mh.tA {a b:Array Keyed}{out:List Keyed}{na nb t:Nat}(h:Mh key a b out na nb)(ht:t<=na)(hn:1<=nb)(q:∀j,t<=j->j<na->ky key b (nb-1)<=ky key a j):Mh key a b (out++((a.toList.take na).drop t).reverse) t nb:=by
 have e:a.toList.take na=a.toList.take t++(a.toList.take na).drop t:=by
  have:=Yi t (a.toList.take na)
  rw[List.take_take,Y0 ht] at this
  exact this.symm
 have sd:Sl key (a.toList.take na):=(iq h.sa).sublist (Y8 _ _)
 rw[e] at sd
 refine ae.el (Ug.mp sd) _ ?_
 rintro s1 s2 s3
 have ha:=h.ha
 have hb:=h.hb
 refine⟨by omega,h.hb,h.sa,h.sb,?_,?_,?_,?_⟩
 ·have p:=h.perm
  rw[e,Uv,Uv] at p
  rw[List.reverse_append,List.reverse_reverse,Uv]
  refine U4.trans (U4.append_left _ ?_) p
  rw[<-Uv,<-Uv]
  exact Yq.append_right _
 ·rw[List.reverse_append,List.reverse_reverse]
  exact Ug.mpr ⟨s2,h.so,fun x hx y hy=>h.la x (Wq hx) y (Wd.mp hy)⟩
 ·intro x hx y hy
  rcases Ji.mp hy with hy|hy
  ·exact h.la x (by rw[e];exact Jx _ hx) y hy
  ·exact s3 x hx y (Wd.mp hy)
 ·intro x hx y hy
  rcases Ji.mp hy with hy|hy
  ·exact h.lb x hx y hy
  ·obtain⟨j,j1,j2,j3,e1⟩:=yG (key:=key) (Wd.mp hy)
   obtain⟨i,i1,i2,e2⟩:=gF (key:=key) hx
   have:=q j j1 j2
   have:=h.sb i (nb-1) (by omega) (by omega) (by omega)
   omega
theorem Mh.tB {a b:Array Keyed}{out:List Keyed}{na nb t:Nat}(h:Mh key a b out na nb)(ht:t<=nb)(hn:1<=na)(q:∀j,t<=j->j<nb->ky key a (na-1)<=ky key b j):Mh key a b (out++((b.toList.take nb).drop t).reverse) na t:=
 (h.swap.tA ht hn q).swap
theorem BB {xs:Array Keyed}{n:Nat}{p:Keyed}(hn:1<=n)(h:xs[n-1]? = some p):((xs.toList.take n).drop (n-1)).reverse=[p]:=by
 rw[List.drop_take,show n-(n-1)=1 by omega,CP h];rfl
theorem Mh.mj {a b out:Array Keyed}{na nb:Nat}{p:Keyed}(h:Mh key a b out.toList na nb)(hn:1<=na)(e:a[na-1]? = some p)(hb:1<=nb)(q:ky key b (nb-1)<=ky key a (na-1)):Mh key a b (out.push p).toList (na-1) nb:=by
 rw[Yl,<-BB hn e]
 exact h.tA (by omega) hb fun j j1 j2=>by rw[show j=na-1 by omega];exact q
theorem Mh.mQ {a b out:Array Keyed}{na nb:Nat}{p:Keyed}(h:Mh key a b out.toList na nb)(hn:1<=nb)(e:b[nb-1]? = some p)(hb:1<=na)(q:ky key a (na-1)<=ky key b (nb-1)):Mh key a b (out.push p).toList na (nb-1):=by
 rw[Yl,<-BB hn e]
 exact h.tB (by omega) hb fun j j1 j2=>by rw[show j=nb-1 by omega];exact q
theorem vH {xs:Array Keyed}{t n:Nat}:(xs.extract t n).toList=(xs.toList.take n).drop t:=by
 rw[Array.toList_extract,List.extract_eq_take_drop,List.drop_take]
theorem Mh.MP {a b out:Array Keyed}{na nb t:Nat}(h:Mh key a b out.toList na nb)(ht:t<=na)(hn:1<=nb)(q:∀j,t<=j->j<na->ky key b (nb-1)<=ky key a j):Mh key a b (out++(a.extract t na).reverse).toList t nb:=by
 rw[U1,Array.toList_reverse,vH]
 exact h.tA ht hn q
theorem Mh.IM {a b out:Array Keyed}{na nb t:Nat}(h:Mh key a b out.toList na nb)(ht:t<=nb)(hn:1<=na)(q:∀j,t<=j->j<nb->ky key a (na-1)<=ky key b j):Mh key a b (out++(b.extract t nb).reverse).toList na t:=by
 rw[U1,Array.toList_reverse,vH]
 exact h.tB ht hn q
theorem AN {xs:Array Keyed}{n:Nat}:(xs.extract 0 n).toList=xs.toList.take n:=by rw[vH,List.drop_zero]
theorem Mh.done {a b out:Array Keyed}{na nb:Nat}(h:Mh key a b out.toList na nb)(q:na=0∨nb=0):Good key a b (a.extract 0 na++b.extract 0 nb++out.reverse):=by
 unfold Good
 rw[U1,U1,AN,AN,Array.toList_reverse]
 refine⟨h.perm,Ug.mpr ⟨Ug.mpr ⟨(iq h.sa).sublist (Y8 _ _),(iq h.sb).sublist (Y8 _ _),fun x hx y hy =>?_⟩,h.so,fun x hx y hy =>?_⟩⟩
 ·obtain⟨j,j1,j2,_⟩:=gF (key:=key) hx
  obtain⟨i,i1,i2,_⟩:=gF (key:=key) hy
  omega
 ·rcases Ji.mp hx with hx|hx
  ·exact h.la x hx y (Wd.mp hy)
  ·exact h.lb x hx y (Wd.mp hy)
theorem Mh.first {a b out:Array Keyed}{na nb:Nat}(h:Mh key a b out.toList na nb)(e:nb=1)(q:ky key b 0<=ky key a 0):Good key a b (b.extract 0 nb++a.extract 0 na++out.reverse):=by
 unfold Good
 rw[U1,U1,AN,AN,Array.toList_reverse]
 refine⟨(Yq.append_right _).trans h.perm,Ug.mpr ⟨Ug.mpr ⟨(iq h.sb).sublist (Y8 _ _),(iq h.sa).sublist (Y8 _ _),fun x hx y hy =>?_⟩,h.so,fun x hx y hy =>?_⟩⟩
 ·obtain⟨j,j1,j2,e1⟩:=gF (key:=key) hx
  obtain⟨i,i1,i2,e2⟩:=gF (key:=key) hy
  have:=h.sa 0 i (by omega) (by omega) i2
  rw[show j=0 by omega] at e1
  omega
 ·rcases Ji.mp hx with hx|hx
  ·exact h.lb x hx y (Wd.mp hy)
  ·exact h.la x hx y (Wd.mp hy)
abbrev ML (key:Keyed->Int)(a b:Array Keyed)(st:SortSt)(x:Nat)(c:Option (Array Keyed)×Nat×Nat×Array Keyed×Nat)(aE:SortSt):Prop:=Kp st aE/\∃na nb out g,c=(none,na,nb,out,g)/\Mh key a b out.toList na nb/\na+nb+x+1<=a.size+b.size/\1<=na/\2<=nb
abbrev JB (key:Keyed->Int)(a b:Array Keyed)(st:SortSt)(c:Option (Array Keyed)×Nat×Nat×Array Keyed×Nat)(aE:SortSt):Prop:=Kp st aE/\∃r,c.1=some r/\Good key a b r
abbrev LC (key:Keyed->Int)(a b:Array Keyed)(gw:SortSt)(x:Nat)(y:Nat)(c:Option (Array Keyed)×Nat×Nat×Array Keyed×Nat×Nat)(aE:SortSt):Prop:=aE=gw/\∃na nb out p q,c=(none,na,nb,out,p,q)/\Mh key a b out.toList na nb/\na+nb+x+1+y<=a.size+b.size/\1<=na/\2<=nb
abbrev Nb (key:Keyed->Int)(a b:Array Keyed)(gw:SortSt)(x:Nat)(c:Option (Array Keyed)×Nat×Nat×Array Keyed×Nat×Nat)(aE:SortSt):Prop:=aE=gw/\((∃r,c.1=some r/\Good key a b r)∨(c.1=none/\Mh key a b c.2.2.2.1.toList c.2.1 c.2.2.1/\c.2.1+c.2.2.1+x+2<=a.size+b.size/\1<=c.2.1/\2<=c.2.2.1))
abbrev JT (key:Keyed->Int)(a b:Array Keyed)(st:SortSt)(x:Nat)(y:Nat)(c:Option (Array Keyed)×Nat×Nat×Array Keyed×Nat×Nat×Nat)(aE:SortSt):Prop:=Kp st aE/\∃na nb out g p q,c=(none,na,nb,out,g,p,q)/\Mh key a b out.toList na nb/\na+nb+x+2<=a.size+b.size/\1<=na/\2<=nb
abbrev MB (key:Keyed->Int)(a b:Array Keyed)(st:SortSt)(x:Nat)(c:Option (Array Keyed)×Nat×Nat×Array Keyed×Nat×Nat×Nat)(aE:SortSt):Prop:=Kp st aE/\((∃r,c.1=some r/\Good key a b r)∨(c.1=none/\Mh key a b c.2.2.2.1.toList c.2.1 c.2.2.1/\c.2.1+c.2.2.1+x+2<=a.size+b.size/\1<=c.2.1/\2<=c.2.2.1))
theorem Hz {a b:Array Keyed}{st:SortSt}{Q:Array Keyed->SortSt->Prop}(hL:iT prog w A E s a₀ key kd)(hk:kindOf st=kd)(yZ:∀p∈a.toList,p∈a₀.toList)(vQ:∀p∈b.toList,p∈a₀.toList)
  (v5:Sg key a 0 a.size) (Bn:Sg key b 0 b.size) (Om:1<=a.size) (xo:1<=b.size) (h0:ky key b 0<=ky key a 0) (hl:∀j,j<b.size->ky key b j<=ky key a (a.size-1))
  (h:∀res aE,Kp st aE->Good key a b res->Q res aE):wpS (model prog w) A E s (wV a b) Q st:=by
 refine wpS_bind (m:=liftM (rule "list.sort.merge-hi")) (wpS_lift (wpAny_rule ⟨rfl,?_⟩))
 refine dC (by omega) fun p e =>?_
 have mz:Mh key a b (#[]:Array Keyed).toList a.size b.size:=⟨Jf _,Jf _,v5,Bn,by rw[<-Jw,<-Jw,J3,J3];simp,.nil,(fun _ _ _ h=>by cases h),(fun _ _ _ h=>by cases h)⟩
 have m0:Mh key a b (#[p]:Array Keyed).toList (a.size-1) b.size:=mz.mj Om e xo (hl _ (by omega))
 refine nL (fun z1=>wpS_pure (h _ _ (Kp.refl _) (m0.done (.inl z1)))) fun z1 =>?_
 refine nL (fun z2=>wpS_pure (h _ _ (Kp.refl _) (m0.first z2 h0))) fun z2 =>?_
 refine wpS_bind (wpS_get ?_)
 refine wpS_bind (wpS_mono (wpS_forRange
  (I:=ML key a b st)
  (Q:=JB key a b st) ?step ?fin ⟨Kp.refl _,_,_,_,_,rfl,m0,by omega,by omega,by omega⟩) ?post)
 case post=>
  rintro⟨c1,c⟩ aE ⟨kp,r,e1,g⟩
  cases e1
  exact wpS_pure (h _ _ kp g)
 case fin=>
  intro c aE
  refine ae.go ?_
  rintro kp na nb out g rfl mm h1 h2 h3
  rw[Nat.zero_max] at h1
  omega
 case step=>
  intro x c gw _ hx
  refine ae.go ?_
  rintro kp1 na nb out g rfl mm h1 h2 h3
  have ua:=mm.ha
  have ub:=mm.hb
  dsimp -zeta only
  refine wpS_bind (wpS_mono (wpS_forRange
   (I:=LC key a b gw x)
   (Q:=Nb key a b gw x) ?mO ?fin1 ⟨rfl,na,nb,out,_,_,rfl,mm,by omega,h2,h3⟩) ?post1)
  case fin1=>
   intro c aE
   refine ae.go ?_
   rintro rfl na nb out p q rfl mm h1 h2 h3
   exact⟨rfl,.inr ⟨rfl,mm,by rw[Nat.zero_max] at h1;dsimp only;omega,h2,h3⟩⟩
  case mO=>
   intro y c aE _ hy
   refine ae.go ?_
   rintro rfl na nb out p q rfl mm h1 h2 h3
   have ua:=mm.ha
   have ub:=mm.hb
   dsimp only
   have la:na-1<a.size:=Y6 h2 mm.ha
   have D7:1<=nb:=Nat.le_of_succ_le h3
   have lb:nb-1<b.size:=Y6 D7 mm.hb
   refine dC (by first|assumption|omega) fun p1 e1=>dC (by first|assumption|omega) fun p2 e2 =>?_
   refine ltB hL (vQ _ (mem_of e1)) (yZ _ (mem_of e2)) (kp1.kind.trans hk) ?_
   rw[<-di (key:=key) e1,<-di (key:=key) e2]
   by_cases bN:ky key b (nb-1)<ky key a (na-1)
   ·rw[decide_eq_true bN]
    dsimp only
    refine K7 rfl ?_
    refine dC (by first|assumption|omega) fun p3 e3 =>?_
    have m1:=mm.mj h2 e3 D7 (by first|exact Ys bN|omega)
    refine nL (fun z3=>wpS_pure ⟨rfl,.inl ⟨_,rfl,m1.done (.inl z3)⟩⟩) fun z3 =>?_
    refine lZ (fun z4=>wpS_pure ⟨rfl,.inr ⟨rfl,m1,by dsimp only;omega,by dsimp only;omega,h3⟩⟩) fun z4 =>?_
    exact wpS_pure ⟨rfl,_,_,_,_,_,rfl,m1,by omega,by omega,h3⟩
   ·rw[decide_eq_false bN]
    dsimp only
    refine HJ Jm ?_
    refine dC (by first|assumption|omega) fun p3 e3 =>?_
    have m1:=mm.mQ D7 e3 h2 (Int.not_lt.mp bN)
    refine nL (fun z3=>wpS_pure ⟨rfl,.inl ⟨_,rfl,m1.first z3 h0⟩⟩) fun z3 =>?_
    refine lZ (fun z4=>wpS_pure ⟨rfl,.inr ⟨rfl,m1,by dsimp only;omega,h2,by dsimp only;omega⟩⟩) fun z4 =>?_
    exact wpS_pure ⟨rfl,_,_,_,_,_,rfl,m1,by omega,h2,by omega⟩
  refine G9 fun c1 na nb out p q =>?_
  intro bQ hc
  have es:bQ=gw:=hc.1
  subst es
  refine Or.elim hc.2 (fun gg =>?_) fun gg =>?_
  ·refine ae.el gg _ ?_
   intro r e1 gd
   have e1:c1=some r:=e1
   subst e1
   exact wpS_pure ⟨kp1,r,rfl,gd⟩
  have e1:c1=none:=gg.1
  have mm:Mh key a b out.toList na nb:=gg.2.1
  have h1:na+nb+x+2<=a.size+b.size:=gg.2.2.1
  have h2:1<=na:=gg.2.2.2.1
  have h3:2<=nb:=gg.2.2.2.2
  clear gg hc
  subst e1
  dsimp -zeta only
  refine wpS_bind (wpS_lift (wpAny_rule ⟨rfl,?_⟩))
  refine wpS_bind (wpS_mono (wpS_forRange
   (I:=JT key a b st x)
   (Q:=MB key a b st x) ?step2 ?fin2 ⟨kp1,na,nb,out,_,_,_,rfl,mm,by omega,h2,h3⟩) ?post2)
  case fin2=>
   intro c aE
   refine ae.go ?_
   rintro kp na nb out g p q rfl mm h1 h2 h3
   exact⟨kp,.inr ⟨rfl,mm,h1,h2,h3⟩⟩
  case post2=>
   refine HF fun c1 na nb out g p q =>?_
   intro cS hc
   have kp:Kp st cS:=hc.1
   refine Or.elim hc.2 (fun gg =>?_) fun gg =>?_
   ·refine ae.el gg _ ?_
    intro r e1 gd
    have e1:c1=some r:=e1
    subst e1
    exact wpS_pure ⟨kp,r,rfl,gd⟩
   have e1:c1=none:=gg.1
   have mm:Mh key a b out.toList na nb:=gg.2.1
   have h1:na+nb+x+2<=a.size+b.size:=gg.2.2.1
   have h2:1<=na:=gg.2.2.2.1
   have h3:2<=nb:=gg.2.2.2.2
   clear gg hc
   subst e1
   dsimp only
   exact ux kp fun jR kk=>wpS_pure ⟨kk,_,_,_,_,rfl,mm,by omega,h2,h3⟩
  case step2=>
   intro y c cS _ hy
   refine ae.go ?_
   rintro kp na nb out g p q rfl mm h1 h2 h3
   have ua:=mm.ha
   have ub:=mm.hb
   dsimp -zeta only
   extract_lets s1 o1 s2 i1 s3 i2 s4 mg s5 ac bc ib1 jp mg1
   refine sA (fun z:Nat=>jp () z) (fun _=>True) (fun g' _ =>?_) fun H =>?_
   rotate_left
   ·exact lZ (fun _=>H _ trivial) fun _=>H _ trivial
   refine ux kp fun jR kk =>?_
   dsimp -zeta only [s1,o1,s2,i1,s3,i2,s4,mg,s5,ac,bc,ib1]
   have Gn:kindOf jR=kd:=kk.kind.trans hk
   have D7:1<=nb:=Nat.le_of_succ_le h3
   have lb:nb-1<b.size:=Y6 D7 ub
   refine dC lb fun p1 e1 =>?_
   refine ke hL Gn yZ (vQ _ (mem_of e1)) (Bv ua v5) (by rw[Nat.zero_add];exact ua) (Nat.sub_one_lt (Yk h2)) fun k1 g1 =>?_
   obtain⟨g11,g12,g13⟩:=g1
   rw[<-di (key:=key) e1] at g12 g13
   simp only[Nat.zero_add] at g12 g13
   dsimp -zeta only
   extract_lets kx ac2 jp2 o2 na2
   refine sA (fun z:Nat×Array Keyed=>jp2 () z.1 z.2) (fun z=>Mh key a b z.2.toList z.1 nb/\1<=z.1/\z.1<=na/\ky key a (z.1-1)<=ky key b (nb-1)) (fun z hz =>?_) fun H =>?_
   rotate_left
   ·refine lZ (fun ka =>?_) fun ka =>?_
    ·have IP:na-k1>0:=ka
     have m1:=mm.MP (t:=k1) g11 D7 (fun j j1 j2=>Ys (nX (g13 j j1 j2)))
     refine nL (fun z1=>wpS_pure ⟨kk,.inl ⟨_,rfl,m1.done (.inl z1)⟩⟩) fun z1 =>?_
     have z2:¬k1=0:=z1
     exact H (na2,o2) ⟨m1,Nat.pos_of_ne_zero z2,g11,mW (g12 (k1-1) (Nat.sub_one_lt z2))⟩
    ·have IP:¬na-k1>0:=ka
     exact H (na,out) ⟨mm,h2,Jf _,mW (g12 (na-1) (Y6 h2 (Nat.le_of_sub_eq_zero (Nat.eq_zero_of_not_pos IP))))⟩
   obtain⟨na3,out2⟩:=z
   have m1:Mh key a b out2.toList na3 nb:=hz.1
   have n1:1<=na3:=hz.2.1
   have n2:na3<=na:=hz.2.2.1
   have n3:ky key a (na3-1)<=ky key b (nb-1):=hz.2.2.2
   clear hz
   refine dC lb fun p2 e2 =>?_
   have m2:=m1.mQ D7 e2 n1 n3
   dsimp -zeta only [ac2,kx]
   extract_lets o3
   refine nL (fun z3=>wpS_pure ⟨kk,.inl ⟨_,rfl,m2.first z3 h0⟩⟩) fun z3 =>?_
   have NQ:na3-1<a.size:=Y6 n1 (Ju n2 ua)
   have Oq:2<=nb-1:=by omega
   have N4:0<nb-1:=Jv Nat.one_pos (Nat.le_of_succ_le Oq)
   refine dC NQ fun p3 e3 =>?_
   refine ke hL Gn vQ (yZ _ (mem_of e3)) (Bv (Uy lb) Bn) (by rw[Nat.zero_add];exact Uy lb) (Nat.sub_one_lt (Yk N4)) fun k2 g2 =>?_
   obtain⟨g21,g22,g23⟩:=g2
   rw[<-di (key:=key) e3] at g22 g23
   simp only[Nat.zero_add] at g22 g23
   dsimp -zeta only
   extract_lets ky2 bc2 jp3 o4 nb4
   refine sA (fun z:Nat×Array Keyed=>jp3 () z.1 z.2) (fun z=>Mh key a b z.2.toList na3 z.1/\2<=z.1/\z.1<=nb/\ky key b (z.1-1)<=ky key a (na3-1)) (fun z hz =>?_) fun H =>?_
   rotate_left
   ·refine lZ (fun kz =>?_) fun kz =>?_
    ·have Oc:nb-1-k2>0:=kz
     have m3:=m2.IM (t:=k2) g21 n1 (fun j j1 j2=>j9 (g23 j j1 j2))
     refine nL (fun z4=>wpS_pure ⟨kk,.inl ⟨_,rfl,m3.first z4 h0⟩⟩) fun z4 =>?_
     refine nL (fun z7=>wpS_pure ⟨kk,.inl ⟨_,rfl,m3.done (.inr z7)⟩⟩) fun z7 =>?_
     have y4:¬k2=1:=z4
     have y7:¬k2=0:=z7
     exact H (nb4,o4) ⟨m3,by show 2<=k2;omega,Ju g21 (Nat.sub_le _ _),Ys (jZ (g22 (k2-1) (Nat.sub_one_lt y7)))⟩
    ·have Oc:¬nb-1-k2>0:=kz
     exact H (nb-1,o3) ⟨m2,Oq,Nat.sub_le _ _,Ys (jZ (g22 (nb-1-1) (Y6 N4 (Nat.le_of_sub_eq_zero (Nat.eq_zero_of_not_pos Oc)))))⟩
   obtain⟨nb3,out3⟩:=z
   have m3:Mh key a b out3.toList na3 nb3:=hz.1
   have n4:2<=nb3:=hz.2.1
   have n5:nb3<=nb:=hz.2.2.1
   have n6:ky key b (nb3-1)<=ky key a (na3-1):=hz.2.2.2
   clear hz
   dsimp only[jp3]
   refine dC NQ fun p4 e4 =>?_
   have m4:=m3.mj n1 e4 (Nat.le_of_succ_le n4) n6
   dsimp only[bc2,ky2]
   refine nL (fun z5=>wpS_pure ⟨kk,.inl ⟨_,rfl,m4.done (.inl z5)⟩⟩) fun z5 =>?_
   refine lZ (fun _=>wpS_pure ⟨kk,.inr ⟨rfl,m4,by dsimp only;omega,Nat.pos_of_ne_zero z5,n4⟩⟩) fun _ =>?_
   exact wpS_pure ⟨kk,_,_,_,_,_,_,rfl,m4,by omega,Nat.pos_of_ne_zero z5,n4⟩
end
section
variable {prog:Program}{w:World}{A:Around}{E:Value->Shared->Prop}{s:Shared}{a₀:Array Keyed}{key:Keyed->Int}{kd:SortKind}
theorem Ba {M:Model}{σ:Type}{st aE: σ}{Q:PUnit -> σ->Prop}(h:Q ⟨⟩ aE):wpS M A E s (set aE:StateT σ Sem PUnit) Q st:=by
 unfold wpS
 rw[StateT.run_set];exact wpAny_pure ⟨rfl,h⟩
theorem xJ {sa:Nat}:∀(l:List Keyed) (n:Nat) (xs:Array Keyed),sa+n+l.length<=xs.size->∀k:Nat,
  ((l.zipIdx n).foldl (fun a (p:Keyed×Nat)=>a.setIfInBounds (sa+p.2) p.1) xs)[k]? = if sa+n<=k/\k<sa+n+l.length then l[k-(sa+n)]? else xs[k]?
 | [],n,xs,h,k=>by rw[List.zipIdx_nil,List.foldl_nil,if_neg (by simp only[Yr];omega)]
 | p::l,n,xs,h,k=>by
  rw[Jt] at h
  rw[List.zipIdx_cons,List.foldl_cons,xJ l (n+1) _ (by rw[Array.size_setIfInBounds];omega),Jt]
  by_cases e1:sa+(n+1)<=k/\k<sa+(n+1)+l.length
  ·rw[if_pos e1,if_pos (by omega),show k-(sa+n)=(k-(sa+(n+1)))+1 by omega,List.getElem?_cons_succ]
  ·rw[if_neg e1,Array.getElem?_setIfInBounds]
   by_cases e2:sa+n=k
   ·subst e2
    rw[if_pos rfl,if_pos (by omega),if_pos (by omega),Nat.sub_self];rfl
   ·rw[if_neg e2,if_neg (by omega)]
noncomputable def wr (sa:Nat)(l:List Keyed)(xs:Array Keyed):Array Keyed:=l.zipIdx.foldl (fun a (p:Keyed×Nat)=>a.setIfInBounds (sa+p.2) p.1) xs
theorem yi {sa:Nat}{l:List Keyed}{xs:Array Keyed}(h:sa+l.length<=xs.size)(k:Nat):(wr sa l xs)[k]? = if sa<=k/\k<sa+l.length then l[k-sa]? else xs[k]?:=xJ l 0 xs h k
theorem AZ {sa:Nat}{l:List Keyed}{xs:Array Keyed}(h:sa+l.length<=xs.size):(wr sa l xs).toList=xs.toList.take sa++(l++xs.toList.drop (sa+l.length)):=by
 refine List.ext_getElem? fun k =>?_
 have hl:(xs.toList.take sa).length=sa:=by rw[J6,Jw];omega
 rw[Uh,yi h]
 by_cases e1:k<sa
 ·rw[if_neg (by omega),Ul (by omega),List.getElem?_take_of_lt e1,Uh]
 ·rw[Ud (by omega),hl]
  by_cases e2:k<sa+l.length
  ·rw[if_pos (by omega),Ul (by omega)]
  ·rw[if_neg (by omega),Ud (by omega),List.getElem?_drop,<-Uh]
   congr 1;omega
theorem zA {sa:Nat}{l:List Keyed}{xs:Array Keyed}(h:sa+l.length<=xs.size)(hp:l.Perm ((xs.toList.drop sa).take l.length)):(wr sa l xs).Perm xs:=by
 refine Wf.mpr ?_
 rw[AZ h]
 have e:xs.toList=xs.toList.take sa++((xs.toList.drop sa).take l.length++xs.toList.drop (sa+l.length)):=by
  rw[<-List.drop_drop,Yi,Yi]
 exact((hp.append_right _).append_left _).trans (U4.of_eq e.symm)
theorem ju {xs:Array Keyed}{i j k:Nat}(hj:j<=xs.size)(hk:i+k<j):ky key (xs.extract i j) k=ky key xs (i+k):=by
 refine cZ ?_
 rw[Array.getElem?_extract,if_pos (by omega)]
theorem wJ {xs:Array Keyed}{i j:Nat}(hj:j<=xs.size)(ij:i<=j)(h:Sg key xs i j):Sg key (xs.extract i j) 0 (xs.extract i j).size:=by
 rw[Array.size_extract,Y0 hj]
 intro p q _ h2 h3
 rw[ju hj (by omega),ju hj (by omega)]
 exact h _ _ (by omega) (by omega) (by omega)
theorem tM {xs:Array Keyed}{i j:Nat}{p:Keyed}(h:p∈(xs.extract i j).toList):p∈xs.toList:=by
 rw[vH] at h
 exact List.mem_of_mem_take (Wq h)
structure Tb (a₀:Array Keyed)(kd:SortKind)(st:SortSt):Prop where
 perm:(arrOf st).Perm a₀
 kind:kindOf st=kd
 failed:failedOf st=none
theorem u4 {xs:Array Keyed}{res:List Keyed}{sa u sb v e:Nat}(h1:sa<=u)(h2:u<=sb)(h3:sb<=v)(h4:v<=e)(h5:e<=xs.size)(h6:sa<sb)(len:u+res.length=v)(gp:res.Perm ((xs.toList.drop u).take res.length))(gs:res.Pairwise fun a b=>key a<=key b)
  (s1:Sg key xs sa sb) (s2:Sg key xs sb e) (hA:∀p,sa<=p->p<u->ky key xs p<=ky key xs sb) (hB:∀q,v<=q->q<e->ky key xs (sb-1)<=ky key xs q):Sg key (wr u res xs) sa e:=by
 have at':=yi (sa:=u) (l:=res) (xs:=xs) (by omega)
 have lY:∀p,(p<u∨v<=p)->ky key (wr u res xs) p=ky key xs p:=fun p hp'=>by
  refine cZ ?_
  rw[at' p,if_neg (by omega)]
 have fR:∀p,u<=p->p<v->∃x,res[p-u]? = some x/\ky key (wr u res xs) p=key x:=fun p a1 a2=>by
  obtain⟨x,hx⟩:∃x,res[p-u]? = some x:=⟨_,Jg (by omega)⟩
  exact⟨x,hx,di ((at' p).trans ((if_pos (by omega)).trans hx))⟩
 have hm:∀p,u<=p->p<v->∃j,u<=j/\j<v/\ky key (wr u res xs) p=ky key xs j:=fun p a1 a2=>by
  refine ae.el (fR p a1 a2) _ ?_
  rintro x hx ex
  have FC:=gp.mem_iff.mp (U5.mpr ⟨_,hx⟩)
  obtain⟨j,j1,j2,j3,e4⟩:=oh (key:=key) FC
  exact⟨j,j1,by omega,by omega⟩
 have sl:sb-1<sb:=by omega
 intro p q g1 g2 g3
 by_cases a1:q<u
 ·have a0:=Ue g2 a1
  rw[lY p (.inl a0),lY q (.inl a1)];exact s1 p q g1 g2 (Jv a1 h2)
 have a1:=Y2 a1
 by_cases a2:q<v
 ·by_cases a3:p<u
  ·refine ae.el (hm q a1 a2) _ ?_
   rintro j j1 j2 ej
   rw[lY p (.inl a3),ej]
   by_cases a4:j<sb
   ·exact s1 p j g1 (Ju (Uy a3) j1) a4
   ·exact Int.le_trans (hA p g1 a3) (s2 sb j (Jf _) (Y2 a4) (Jv j2 h4))
  ·have a3:=Y2 a3
   refine ae.el (fR p a3 (Ue g2 a2)) _ ?_
   rintro x hx ex
   refine ae.el (fR q a1 a2) _ ?_
   rintro y hy ey
   rw[ex,ey]
   by_cases a5:p=q
   ·subst a5
    rw[hx] at hy;cases hy;exact Yn _
   ·obtain⟨l1,e5⟩:=Jy.mp hx
    obtain⟨l2,e6⟩:=Jy.mp hy
    have:=Yc.mp gs _ _ l1 l2 (Nat.sub_lt_sub_right a3 (Ut g2 a5))
    rw[e5,e6] at this;exact this
 ·have a2:=Y2 a2
  rw[lY q (.inr a2)]
  have hq:=hB q a2 g3
  by_cases a3:p<u
  ·rw[lY p (.inl a3)]
   exact Int.le_trans (s1 p (sb-1) g1 (by omega) sl) hq
  ·by_cases a4:p<v
   ·refine ae.el (hm p (Y2 a3) a4) _ ?_
    rintro j j1 j2 ej
    rw[ej]
    by_cases a5:j<sb
    ·exact Int.le_trans (s1 j (sb-1) (Ju h1 j1) (by omega) sl) hq
    ·exact s2 j q (Y2 a5) (Ju (Uy j2) a2) g3
   ·have a4:=Y2 a4
    rw[lY p (.inr a4)]
    exact s2 p q (Ju h3 a4) g2 g3
theorem rE {st:SortSt}{i sa na sb nb p1 p2:Nat}{L R:List (Nat×Nat×Nat)}{Q:Bool->SortSt->Prop}(hL:iT prog w A E s a₀ key kd)(hT:Tb a₀ kd st)
  (hp:(pendingOf st).toList=L++(sa,na,p1)::(sb,nb,p2)::R) (hi:L.length=i) (e1:sb=sa+na) (n1:1<=na) (n2:1<=nb) (hz:sb+nb<=a₀.size)
  (s1:Sg key (arrOf st) sa sb) (s2:Sg key (arrOf st) sb (sb+nb))
  (h:∀aE,Tb a₀ kd aE->(pendingOf aE).toList=L++(sa,na+nb,p1)::R->(∀k,k<sa∨sb+nb<=k->(arrOf aE)[k]? = (arrOf st)[k]?)->Sg key (arrOf aE) sa (sb+nb)->Q true aE) :
  wpS (model prog w) A E s (mergeAt' i) Q st:=by
 have hsz:=hT.perm.size_eq
 have g1:(pendingOf st)[i]? = some (sa,na,p1):=by
  rw[<-Uh,hp,Ud (by omega),hi,Nat.sub_self];rfl
 have g2:(pendingOf st)[i+1]? = some (sb,nb,p2):=by
  rw[<-Uh,hp,Ud (by omega),hi,show i+1-i=1 by omega];rfl
 have hP:(((pendingOf st).setIfInBounds i (sa,na+nb,p1)).eraseIdxIfInBounds (i+1)).toList=L++(sa,na+nb,p1)::R:=by
  have bN:i+1<((pendingOf st).setIfInBounds i (sa,na+nb,p1)).size:=by
   rw[Array.size_setIfInBounds,<-Jw,hp,Je,Jt,Jt];omega
  rw[Array.eraseIdxIfInBounds,dif_pos bN,Array.toList_eraseIdx,Array.toList_setIfInBounds,hp]
  rw[List.set_append_right _ _ (by omega),hi,Nat.sub_self,List.set_cons_zero,List.eraseIdx_append_of_length_le (by omega),hi,show i+1-i=1 by omega]
  rfl
 refine wpS_bind (m:=get) (wpS_get ?_)
 dsimp only
 rw[g1,g2]
 dsimp only
 refine wpS_bind (Ba ?_)
 have am:∀p∈(arrOf st).toList,p∈a₀.toList:=fun p h'=>(Wf.mp hT.perm).mem_iff.mp h'
 refine wpS_bind (h7 (xs:=arrOf st) (by omega) fun q1 f1 =>?_)
 refine wpS_bind (jM (arr:=arrOf st) hL (show kindOf (setPending st _)=kd from hT.kind) am (am _ (mem_of f1)) (by rw[<-e1];exact s1) (by omega) (by omega) fun k gk =>?_)
 obtain⟨k1,k2,k3⟩:=gk
 rw[<-di (key:=key) f1] at k2 k3
 obtain⟨d,rfl⟩:∃d,na=k+d:=Nat.exists_eq_add_of_le k1
 have eD:sb=sa+k+d:=by omega
 have hA:∀p,sa<=p->p<sa+k->ky key (arrOf st) p<=ky key (arrOf st) sb:=fun p h1 h2=>by
  have:=mW (k2 (p-sa) (by omega));rwa[show sa+(p-sa)=p by omega] at this
 dsimp only
 rw[Wa]
 refine nL (fun z1 =>?_) fun z1 =>?_
 ·refine wpS_pure (h _ ⟨hT.perm,hT.kind,hT.failed⟩ hP (fun _ _=>rfl) fun p q h1 h2 h3 =>?_)
  show ky key (arrOf st) p<=ky key (arrOf st) q
  by_cases c1:q<sb
  ·exact s1 p q h1 h2 c1
  ·by_cases c2:sb<=p
   ·exact s2 p q c2 h2 h3
   ·exact Int.le_trans (hA p h1 (by omega)) (s2 sb q (Jf _) (by omega) h3)
 have d1:1<=d:=Nat.pos_of_ne_zero z1
 refine wpS_bind (h7 (xs:=arrOf st) (by omega) fun q2 f2 =>?_)
 refine wpS_bind (jM (arr:=arrOf st) hL (show kindOf (setPending st _)=kd from hT.kind) am (am _ (mem_of f2)) s2 (by omega) (by omega) fun m gm =>?_)
 obtain⟨m1,m2,m3⟩:=gm
 rw[<-di (key:=key) f2,<-eD] at m2 m3
 have hB:∀q,sb+m<=q->q<sb+nb->ky key (arrOf st) (sb-1)<=ky key (arrOf st) q:=fun q h1 h2=>by
  have:=j9 (m3 (q-sb) (by omega) (by omega));rwa[show sb+(q-sb)=q by omega] at this
 dsimp only
 have hC:=nX (k3 k (Jf _) (by omega))
 by_cases z2:m=0
 ·have:=hB sb (by omega) (by omega)
  have:=s1 (sa+k) (sb-1) (by omega) (by omega) (by omega)
  omega
 refine HJ (by simpa using z2) ?_
 have x1:((arrOf st).extract (sa+k) sb).size=d:=by rw[Array.size_extract,Y0 (by omega),eD,Wa]
 have y1:((arrOf st).extract sb (sb+m)).size=m:=by rw[Array.size_extract,Y0 (by omega),Wa]
 have sx:=wJ (key:=key) (xs:=arrOf st) (i:=sa+k) (j:=sb) (by omega) (by omega) (fun p q h1 h2 h3=>s1 p q (by omega) h2 h3)
 have sy:=wJ (key:=key) (xs:=arrOf st) (i:=sb) (j:=sb+m) (by omega) (by omega) (fun p q h1 h2 h3=>s2 p q h1 h2 (by omega))
 have h0:ky key ((arrOf st).extract sb (sb+m)) 0<=ky key ((arrOf st).extract (sa+k) sb) 0:=by
  rw[ju (by omega) (by omega),ju (by omega) (by omega)]
  exact Ys hC
 have hl:∀j,j<((arrOf st).extract sb (sb+m)).size->ky key ((arrOf st).extract sb (sb+m)) j<=ky key ((arrOf st).extract (sa+k) sb) (((arrOf st).extract (sa+k) sb).size-1):=fun j hj=>by
  rw[y1] at hj
  rw[x1,ju (by omega) (by omega),ju (by omega) (by omega),show sa+k+(d-1)=sb-1 by rw[eD,Nat.add_sub_assoc d1]]
  have:=jZ (m2 j hj);omega
 have wb:∀(res:Array Keyed) (bQ:SortSt),Kp (setPending st (((pendingOf st).setIfInBounds i (sa,k+d+nb,p1)).eraseIdxIfInBounds (i+1))) bQ->Good key ((arrOf st).extract (sa+k) sb) ((arrOf st).extract sb (sb+m)) res->Q true (setArr bQ (wr (sa+k) res.toList (arrOf bQ))):=fun res bQ kp gd=>by
  have ea:arrOf bQ=arrOf st:=kp.arr
  obtain⟨gp,gs⟩:=gd
  have len:res.toList.length=d+m:=by rw[gp.length_eq,Je,Jw,Jw,x1,y1]
  have hw:sa+k+res.toList.length<=(arrOf st).size:=by omega
  have eM:((arrOf st).extract (sa+k) sb).toList++((arrOf st).extract sb (sb+m)).toList=((arrOf st).toList.drop (sa+k)).take res.toList.length:=by
   rw[vH,vH,List.drop_take,List.drop_take,len,Wa,show sb-(sa+k)=d by rw[eD,Wa],List.take_add,List.drop_drop,<-eD]
  refine h _ ⟨?_,kp.kind.trans hT.kind,kp.failed.trans hT.failed⟩ ?_ (fun p hp' =>?_) fun p q h1 h2 h3 =>?_
  ·show(wr (sa+k) res.toList (arrOf bQ)).Perm a₀
   rw[ea]
   exact(zA hw (gp.trans (U4.of_eq eM))).trans hT.perm
  ·show(pendingOf bQ).toList=_
   rw[kp.pend];exact hP
  ·show(wr (sa+k) res.toList (arrOf bQ))[p]? = _
   rw[ea,yi hw p,if_neg (by omega)]
  ·show ky key (wr (sa+k) res.toList (arrOf bQ)) p<=ky key (wr (sa+k) res.toList (arrOf bQ)) q
   rw[ea]
   exact u4 (Um _ _) (Ju (Um _ _) (Yy eD.symm)) (Um _ _) (U8 m1 _) (Ju hz (Yy hsz.symm)) (by omega) (by omega) (gp.trans (U4.of_eq eM)) gs s1 s2 hA hB p q h1 h2 h3
 have yZ:∀p∈((arrOf st).extract (sa+k) sb).toList,p∈a₀.toList:=fun p hp'=>am _ (tM hp')
 have vQ:∀p∈((arrOf st).extract sb (sb+m)).toList,p∈a₀.toList:=fun p hp'=>am _ (tM hp')
 have tl:∀(res:Array Keyed) (bQ:SortSt),Kp (setPending st (((pendingOf st).setIfInBounds i (sa,k+d+nb,p1)).eraseIdxIfInBounds (i+1))) bQ->Good key ((arrOf st).extract (sa+k) sb) ((arrOf st).extract sb (sb+m)) res ->
   wpS (model prog w) A E s (do
    modify fun s=>setArr s (wr (sa+k) res.toList (arrOf s))
    return (failedOf (<-get)).isNone) Q bQ:=fun res bQ kp gd=>by
  refine wpS_bind (wpS_modify (wpS_bind (wpS_get (wpS_pure ?_))))
  have ef:failedOf (setArr bQ (wr (sa+k) res.toList (arrOf bQ)))=none:=kp.failed.trans hT.failed
  rw[ef]
  exact wb res bQ kp gd
 refine lZ (fun _ =>?_) fun _ =>?_
 ·exact wpS_bind (FQ (a:=(arrOf st).extract (sa+k) sb) (b:=(arrOf st).extract sb (sb+m)) hL (show kindOf (setPending st _)=kd from hT.kind) yZ vQ sx sy (by omega) (by omega) h0 hl fun res bQ kp gd=>tl res bQ kp gd)
 ·exact wpS_bind (Hz (a:=(arrOf st).extract (sa+k) sb) (b:=(arrOf st).extract sb (sb+m)) hL (show kindOf (setPending st _)=kd from hT.kind) yZ vQ sx sy (by omega) (by omega) h0 hl fun res bQ kp gd=>tl res bQ kp gd)
end
section
variable {prog:Program}{w:World}{A:Around}{E:Value->Shared->Prop}{s:Shared}{a₀:Array Keyed}{key:Keyed->Int}{kd:SortKind}
def h8 (key:Keyed->Int)(xs:Array Keyed):Nat->List (Nat×Nat×Nat)->Nat->Prop
 | lo,[],hi=>lo=hi
 | lo,(s,n,_)::t,hi=>s=lo/\1<=n/\Sg key xs lo (lo+n)/\h8 key xs (lo+n) t hi
theorem h8.le {xs:Array Keyed}:∀{L:List (Nat×Nat×Nat)} {lo hi:Nat},h8 key xs lo L hi->lo+L.length<=hi
 | [],lo,hi,h=>by have h:lo=hi:=h;simp -iota only [Yr];omega
 | (s,n,p)::t,lo,hi,h=>by
  obtain⟨_,h1,_,h2⟩:=h
  have:=h2.le
  rw[Jt];omega
theorem h8.app {xs:Array Keyed}:∀{L R:List (Nat×Nat×Nat)} {lo mid hi:Nat},h8 key xs lo L mid->h8 key xs mid R hi->h8 key xs lo (L++R) hi
 | [],R,lo,mid,hi,h,h'=>by have h:lo=mid:=h;rw[h];exact h'
 | (s,n,p)::t,R,lo,mid,hi,h,h'=>⟨h.1,h.2.1,h.2.2.1,h.2.2.2.app h'⟩
theorem h8.cut {xs:Array Keyed}:∀{L R:List (Nat×Nat×Nat)} {lo hi:Nat},h8 key xs lo (L++R) hi->∃mid,h8 key xs lo L mid/\h8 key xs mid R hi
 | [],R,lo,hi,h=>⟨lo,rfl,h⟩
 | (s,n,p)::t,R,lo,hi,h=>by
  obtain⟨mid,h1,h2⟩:=h8.cut (L:=t) h.2.2.2
  exact⟨mid,⟨h.1,h.2.1,h.2.2.1,h1⟩,h2⟩
theorem tw {xs ys:Array Keyed}{i j:Nat}(e:∀k,i<=k->k<j->ys[k]? = xs[k]?)(h:Sg key xs i j):Sg key ys i j:=fun p q h1 h2 h3=>by
 rw[cZ (e p h1 (by omega)),cZ (e q (by omega) h3)];exact h p q h1 h2 h3
theorem h8.same {xs ys:Array Keyed}:∀{L:List (Nat×Nat×Nat)} {lo hi:Nat},(∀k,lo<=k->k<hi->ys[k]? = xs[k]?)->h8 key xs lo L hi->h8 key ys lo L hi
 | [],lo,hi,e,h=>h
 | (s,n,p)::t,lo,hi,e,h=>by
  obtain⟨h0,h1,h2,h3⟩:=h
  have:=h3.le
  exact⟨h0,h1,tw (fun k a b=>e k a (by omega)) h2,h8.same (fun k a b=>e k (by omega) b) h3⟩
theorem mS {st:SortSt}{i hi:Nat}{Q:Bool->SortSt->Prop}(hL:iT prog w A E s a₀ key kd)(hT:Tb a₀ kd st)(hc:h8 key (arrOf st) 0 (pendingOf st).toList hi)(hz:hi<=a₀.size)(vW:i+1<(pendingOf st).size)
  (h:∀aE,Tb a₀ kd aE->h8 key (arrOf aE) 0 (pendingOf aE).toList hi->(pendingOf aE).size+1=(pendingOf st).size->(∀k,hi<=k->(arrOf aE)[k]? = (arrOf st)[k]?)->Q true aE):wpS (model prog w) A E s (mergeAt' i) Q st:=by
 have hl:i+1<(pendingOf st).toList.length:=by rw[Jw];exact vW
 obtain⟨⟨sa,na,p1⟩,e1⟩:∃y,(pendingOf st).toList[i]'(by omega)=y:=⟨_,rfl⟩
 obtain⟨⟨sb,nb,p2⟩,e2⟩:∃y,(pendingOf st).toList[i+1]'hl=y:=⟨_,rfl⟩
 have ep:(pendingOf st).toList=(pendingOf st).toList.take i++(sa,na,p1)::(sb,nb,p2)::(pendingOf st).toList.drop (i+2):=by
  have d1:=Y1 (i:=i) (l:=(pendingOf st).toList) (by omega)
  have d2:=Y1 (i:=i+1) (l:=(pendingOf st).toList) hl
  rw[e1] at d1
  rw[e2] at d2
  rw[<-d2,<-d1,Yi]
 have jO:=hc
 rw[ep] at jO
 refine ae.el (jO.cut) _ ?_
 rintro mid c1 c2
 obtain⟨rfl,n1,s1,c3⟩:=c2
 obtain⟨rfl,n2,s2,c4⟩:=c3
 have Rx:=c4.le
 refine rE hL hT ep (by rw[J6];omega) rfl n1 n2 (by omega) s1 s2 fun aE t' p' o' s' =>?_
 refine h aE t' ?_ ?_ (fun k hk=>o' k (.inr (by omega)))
 ·rw[p']
  refine h8.app (mid:=sa) (c1.same fun k _ hk=>o' k (.inl hk)) ⟨rfl,by omega,?_,?_⟩
  ·rw[<-Nat.add_assoc];exact s'
  ·rw[<-Nat.add_assoc];exact c4.same fun k hk _=>o' k (.inr hk)
 ·have l1:=congrArg J9 p'
  have l2:=congrArg J9 ep
  rw[Jw] at l1 l2
  rw[l1,l2]
  simp -iota only [Je,Jt]
  omega
theorem h8.pow {xs:Array Keyed}{f:Nat×Nat×Nat->Nat×Nat×Nat}(hf:∀y,(f y).1=y.1/\(f y).2.1=y.2.1):∀{L:List (Nat×Nat×Nat)} {i lo hi:Nat},h8 key xs lo L hi->h8 key xs lo (L.modify i f) hi
 | [],i,lo,hi,h=>by rw[List.modify_nil];exact h
 | (s,n,p)::t,0,lo,hi,h=>by
  rw[List.modify_zero_cons]
  obtain⟨e1,e2⟩:=hf (s,n,p)
  generalize f (s,n,p)=y at e1 e2
  obtain⟨y1,y2,y3⟩:=y
  dsimp only at e1 e2
  subst e1 e2
  exact h
 | (s,n,p)::t,i+1,lo,hi,h=>by
  rw[List.modify_succ_cons]
  exact⟨h.1,h.2.1,h.2.2.1,h8.pow hf h.2.2.2⟩
theorem zG {c:Prop}[Decidable c]{n:Nat}(h:1<n):(if c then n-2-1 else n-2)+1<n:=by
 by_cases z:c
 ·rw[if_pos z];omega
 ·rw[if_neg z];omega
theorem Fv {α γ:Type}{m:StateT SortSt Sem α}{Q: α->SortSt->Prop}{st:SortSt}(V: γ->StateT SortSt Sem α)(G: γ->SortSt->Prop)(hV:∀z st,G z st->wpS (model prog w) A E s (V z) Q st)
  (hm:(∀z st,G z st->wpS (model prog w) A E s (V z) Q st)->wpS (model prog w) A E s m Q st):wpS (model prog w) A E s m Q st:=hm hV
theorem AO {st:SortSt}{Q:Unit->SortSt->Prop}(hL:iT prog w A E s a₀ key kd)(hT:Tb a₀ kd st)(hp:pendingOf st = #[])
  (h:∀aE,Tb a₀ kd aE->Sg key (arrOf aE) 0 a₀.size->Q () aE):wpS (model prog w) A E s sortRuns' Q st:=by
 have hsz:=hT.perm.size_eq
 rw[sortRuns'_eq]
 refine wpS_bind (wpS_get ?_)
 dsimp -zeta only
 rw[hsz]
 refine wpS_bind (wpS_mono (wpS_forRange
  (I:=fun x c aE=>∃lo,c=(none,lo)/\Tb a₀ kd aE/\h8 key (arrOf aE) 0 (pendingOf aE).toList lo/\lo<=a₀.size/\(x<=lo∨lo=a₀.size))
  (Q:=fun c aE=>c=(none,a₀.size)/\Tb a₀ kd aE/\h8 key (arrOf aE) 0 (pendingOf aE).toList a₀.size) ?step ?fin ⟨0,rfl,hT,by rw[hp];rfl,Us _,.inl (Jf _)⟩) ?post)
 case fin=>
  intro c aE
  refine ae.go ?_
  rintro lo rfl t ch h1 h2
  have:lo=a₀.size:=by omega
  subst this
  exact⟨rfl,t,ch⟩
 case post=>
  intro c gw
  refine ae.go ?_
  rintro rfl t1 ch1
  dsimp only
  refine wpS_bind (wpS_mono (wpS_forRange
   (I:=fun x c aE=>c=(none,())/\Tb a₀ kd aE/\h8 key (arrOf aE) 0 (pendingOf aE).toList a₀.size/\((pendingOf aE).size<=1∨(pendingOf aE).size+x<=a₀.size))
   (Q:=fun c aE=>c=(none,())/\Tb a₀ kd aE/\h8 key (arrOf aE) 0 (pendingOf aE).toList a₀.size/\(pendingOf aE).size<=1) ?step2 ?fin2 ⟨rfl,t1,ch1,.inr (by have:=ch1.le;rw[Jw] at this;omega)⟩) ?post2)
  case fin2=>
   intro c aE
   refine ae.go ?_
   rintro rfl t ch hs
   exact⟨rfl,t,ch,by omega⟩
  case post2=>
   intro c aE
   refine ae.go ?_
   rintro rfl t ch hs
   refine wpS_pure (h aE t ?_)
   cases e:(pendingOf aE).toList with
   | nil=>
    rw[e] at ch
    have ch:0=a₀.size:=ch
    intro p q _ _ h3;omega
   | cons y r=>
    have hl:(pendingOf aE).toList.length<=1:=by rw[Jw];exact hs
    rw[e] at ch hl
    have hr:r=[]:=by
     cases r with
     | nil=>rfl
     | cons _ _=>simp -iota only [Jt] at hl;omega
    subst hr
    obtain⟨y1,y2,y3⟩:=y
    obtain⟨_,_,g1,g2⟩:=ch
    have g2:0+y2=a₀.size:=g2
    rw[g2] at g1;exact g1
  case step2=>
   intro x c aE _ hx
   refine ae.go ?_
   rintro rfl t ch hs
   refine wpS_bind (wpS_get ?_)
   by_cases z:(pendingOf aE).size<=1
   ·rw[if_pos z]
    exact wpS_pure ⟨rfl,t,ch,z⟩
   ·rw[if_neg z]
    refine wpS_bind (mS hL t ch (Jf _) (zG (by omega)) fun bQ t2 ch2 NM _ =>?_)
    exact wpS_pure ⟨rfl,t2,ch2,by omega⟩
 case step=>
  intro x c gw _ hx
  refine ae.go ?_
  rintro lo rfl t1 ch1 h1 h2
  dsimp -zeta only
  extract_lets l0 jp fc n2
  refine lZ (fun z =>?_) fun z =>?_
  ·have:lo=a₀.size:=Nat.le_antisymm h1 z
   subst this
   exact wpS_pure ⟨rfl,t1,ch1⟩
  have z:¬lo>=a₀.size:=z
  have tl:∀(n:Nat) (bQ:SortSt),Tb a₀ kd bQ->1<=n->lo+n<=a₀.size->Sg key (arrOf bQ) lo (lo+n)->∀p:Array (Nat×Nat×Nat),h8 key (arrOf bQ) 0 p.toList lo ->
    Tb a₀ kd (setPending bQ (p.push (lo,n,0)))/\h8 key (arrOf bQ) 0 (p.push (lo,n,0)).toList (lo+n):=fun n bQ t2 n1 n2 s2 p hp'=>by
   refine⟨⟨t2.perm,t2.kind,t2.failed⟩,?_⟩
   rw[Yl]
   exact hp'.app ⟨rfl,n1,s2,rfl⟩
  have af:Af a₀ kd lo gw gw:=⟨t1.perm,t1.kind,t1.failed,rfl,fun _ _=>rfl⟩
  have back:∀{bQ:SortSt},Af a₀ kd lo gw bQ->Tb a₀ kd bQ/\h8 key (arrOf bQ) 0 (pendingOf bQ).toList lo:=fun{bQ} f=>⟨⟨f.perm,f.kind,f.failed⟩,by rw[f.pend];exact ch1.same fun k _ hk=>f.low k hk⟩
  refine Fv (fun n:Nat=>jp () n) (fun n bQ=>Af a₀ kd lo gw bQ/\1<=n/\lo+n<=a₀.size/\Sg key (arrOf bQ) lo (lo+n)) (fun m bQ hz =>?_) fun H =>?_
  rotate_left
  ·refine wpS_bind (wY hL (by omega) (by omega) af fun m bQ f2 m1 m2 s2 =>?_)
   dsimp only[l0,fc,n2]
   refine lZ (fun zm =>?_) fun zm =>?_
   ·refine wpS_bind (wpS_lift (wpAny_rule ⟨rfl,?_⟩))
    refine wpS_bind (CS hL (by omega) (by omega) f2 s2 fun cS f3 s3 =>?_)
    simp -iota only [Bool.not_true,Ua,if_false]
    exact H _ cS ⟨f3,by omega,by omega,s3⟩
   ·exact H _ bQ ⟨f2,m1,by omega,s2⟩
  obtain⟨f2,m1,m2,s2⟩:=hz
  have b2:=back f2
  refine wpS_bind (wpS_get ?_)
  dsimp only[l0]
  cases hb:(pendingOf bQ).back? with
  | none=>
   dsimp only
   obtain⟨u1,u2⟩:=tl m bQ b2.1 m1 m2 s2 (pendingOf bQ) b2.2
   exact wpS_bind (wpS_modify (wpS_pure ⟨_,rfl,u1,u2,m2,.inl (by omega)⟩))
  | some y=>
   obtain⟨y1,y2,y3⟩:=y
   dsimp only
   refine wpS_bind (wpS_mono (wpS_forRange
    (I:=fun _ c aE=>c=(none,())/\Tb a₀ kd aE/\h8 key (arrOf aE) 0 (pendingOf aE).toList lo/\Sg key (arrOf aE) lo (lo+m))
    (Q:=fun c aE=>c=(none,())/\Tb a₀ kd aE/\h8 key (arrOf aE) 0 (pendingOf aE).toList lo/\Sg key (arrOf aE) lo (lo+m)) ?step4 (fun _ _ hh=>hh) ⟨rfl,b2.1,b2.2,s2⟩) ?post4)
   case post4=>
    intro c dz
    refine ae.go ?_
    rintro rfl t5 c5 s5
    dsimp only
    have c6:h8 key (arrOf dz) 0 ((pendingOf dz).modify ((pendingOf dz).size-1) fun z=>(z.1,z.2.1,power' a₀.size (2*y1+y2) (2*y1+y2+y2+m) a₀.size)).toList lo:=by
     rw[Array.toList_modify]
     refine h8.pow (fun _ =>?_) c5
     exact⟨rfl,rfl⟩
    obtain⟨u1,u2⟩:=tl m dz t5 m1 m2 s5 _ c6
    exact wpS_bind (wpS_modify (wpS_bind (wpS_modify (wpS_pure ⟨_,rfl,u1,u2,m2,.inl (by omega)⟩))))
   case step4=>
    intro x5 c dz _ _
    refine ae.go ?_
    rintro rfl t5 c5 s5
    refine wpS_bind (wpS_get ?_)
    by_cases z5:(pendingOf dz).size>1
    ·have Oj:(pendingOf dz).size-2<(pendingOf dz).size:=by omega
     rw[if_pos z5,getElem?_pos (pendingOf dz) ((pendingOf dz).size-2) Oj]
     obtain⟨⟨v1,v2,v3⟩,ev⟩:∃v,(pendingOf dz)[(pendingOf dz).size-2]'Oj=v:=⟨_,rfl⟩
     rw[ev]
     dsimp only
     refine lZ (fun _=>wpS_pure ⟨rfl,t5,c5,s5⟩) fun _ =>?_
     refine wpS_bind (mS hL t5 c5 h1 (by omega) fun qX t6 c6 _ o6 =>?_)
     exact wpS_pure ⟨rfl,t6,c6,tw (fun k hk _=>o6 k hk) s5⟩
    ·rw[if_neg z5]
     exact wpS_pure ⟨rfl,t5,c5,s5⟩
end
section
variable {X:Cx}{pos:Pos}
def yp:TE:=fun _ H Q=>∀p H',dM H p (.dK []) H'->Q (.ref p) H'
theorem qg:PE X (.Dict [] [] pos) yp:=by
 have e:yp=wu:=by
  funext σ H Q
  exact(kf (F:=fun p H'=>Q (.ref p) H')).symm
 rw[e];exact wB
end
section
variable {X:Cx}
theorem zR:fj X (binaryOp .Mult) (fun x y H Q=>∃(z:Str) (n:Int),x = .str z/\y = .int n/\MulOk z n/\Q (.str (Txt.mul z n)) H):=by
 intro pins s σ H x y v u Q I rx ry h
 obtain⟨z,n,rfl,rfl,ok,q⟩:=h
 obtain⟨t,rfl⟩:=rx
 obtain⟨t',rfl⟩:=ry
 exact SB.mul ok fun t' k=>⟨.str _,H,I.tok _,⟨_,rfl⟩,q⟩
def Ff:R2:=fun x y H Q=>Bs x y H Q∨∃(z:Str) (n:Int),x = .str z/\y = .int n/\MulOk z n/\Q (.str (Txt.mul z n)) H
theorem DA:fj X (binaryOp .Mult) Ff:=nD.or zR
theorem gJ {z:Str}{n:Int}(h1:z.length<=1000)(h2:n<=1000)(h3: -1000<=n):MulOk z n:=by
 refine⟨?_,fun a _ =>?_,fun a _ =>?_⟩
 ·rw[decide_eq_false (by omega),decide_eq_false (by omega)];rfl
 ·have:(1000:Int)<=(2^63-1) / n:=by
   rw[Int.le_ediv_iff_mul_le (by omega)]
   omega
  omega
 ·have:z.length*n.toNat<=1000*1000:=Nat.mul_le_mul h1 (by omega)
  show decide (_>sizeLine)=false
  simp
  exact Ju this (by decide)
end
noncomputable def oneMore {K:Type}[DecidableEq K](D:List K)(k:K):List K:=if k∈D then D else D++[k]
noncomputable def bS {K:Type}[DecidableEq K](ks:Nat->K):Nat->List K
 | 0=>[]
 | i+1=>oneMore (bS ks i) (ks i)
theorem iJ {K:Type}[DecidableEq K](ks:Nat->K):∀i,(bS ks i).length<=i
 | 0=>Jf _
 | i+1=>by
  have:=iJ ks i
  unfold bS oneMore
  split
  ·omega
  ·rw[Je];exact Wc this
section
variable {prog:Program}{w:World}{K:Type}[DecidableEq K]{knd:PySem.KeyKind prog w K}
def jb (knd:PySem.KeyKind prog w K)(h:Heap)(a:Addr)(D:List K):Prop:=h.SetOf knd a (fun k=>decide (k∈D)) D.length
theorem jb.at' {h h':Heap}{a:Addr}{D:List K}(x:jb knd h a D)(k:∀o,h.get? a=some o->h'.get? a=some o):jb knd h' a D:=by
 obtain⟨o,es,ep,t,e,r⟩:=x
 exact⟨o,es,ep,t,k _ e,r⟩
variable {A:Around}{R:Result->Shared->Prop}{I:Addr}{fp wr:List Addr}{G:Array GenState->Array GenState->Prop}{n:Nat}{P:Nat->Value->Prop}{St:Nat->Shared->Prop}
end
noncomputable abbrev cq (led:Bool):Obj:={ cls := .type "set",dict:=none,data := .set #[] 0 (.fresh 0 0 led) }
noncomputable def qy (zs:List Str):List Str:=bS (fun i=>zs.getD i Str.empty) zs.length
def Up (xs:List Nat):Prop:=xs.Pairwise (· < ·)
theorem Up.lt {xs:Array Nat}(h:Up xs.toList){i j:Nat}(hj:j<xs.size)(ij:i<j):xs[i]<xs[j]:=by
 have:=Yc.mp h i j (by simpa using Nat.lt_trans ij hj) (by simpa using hj) ij
 simpa using this
structure Cut (xs:Array Nat)(j p:Nat):Prop where
 le:p<=xs.size
 lo:∀i (h:i<xs.size),i<p->xs[i]<j
 hi:∀i (h:i<xs.size),p<=i->j<=xs[i]
theorem kE {xs:Array Nat}(u:Up xs.toList)(j:Nat):∀(fuel lo hi:Nat),hi-lo<=fuel->lo<=hi->hi<=xs.size->(∀i (h:i<xs.size),i<lo->xs[i]<j)->(∀i (h:i<xs.size),hi<=i->j<=xs[i])->Cut xs j (SetTable.below.go xs j fuel lo hi)
 | 0,lo,hi,hf,hl,hs,h1,h2=>by
  have e:lo=hi:=by omega
  unfold SetTable.below.go
  subst e
  exact⟨hs,h1,h2⟩
 | fuel+1,lo,hi,hf,hl,hs,h1,h2=>by
  unfold SetTable.below.go
  by_cases bN:lo<hi
  ·rw[if_pos bN]
   have hm:(lo+hi) / 2<xs.size:=by omega
   have e:xs.getD ((lo+hi) / 2) j=xs[(lo+hi) / 2]:=by simp[Array.getD,hm]
   dsimp only
   rw[e]
   by_cases hc:xs[(lo+hi) / 2]<j
   ·rw[if_pos hc]
    refine kE u j fuel _ _ (by omega) (by omega) hs (fun i h iV =>?_) h2
    by_cases q:i=(lo+hi) / 2
    ·subst q;exact hc
    ·exact Nat.lt_trans (u.lt hm (by omega)) hc
   ·rw[if_neg hc]
    refine kE u j fuel _ _ (by omega) (by omega) (by omega) h1 (fun i h iV =>?_)
    by_cases q:i=(lo+hi) / 2
    ·subst q;omega
    ·have:=u.lt h (show(lo+hi) / 2<i by omega)
     omega
  ·rw[if_neg bN]
   have e:lo=hi:=by omega
   subst e
   exact⟨hs,h1,h2⟩
theorem fK {xs:Array Nat}(u:Up xs.toList)(j:Nat):Cut xs j (SetTable.below xs j):=
 kE u j _ _ _ (by omega) (Us _) (Jf _) (fun i h z=>absurd z (Nat.not_lt_zero _)) fun i h z=>absurd h (by omega)
theorem Cut.next {xs:Array Nat}{p i:Nat}(u:Up xs.toList)(h:i<xs.size)(c:Cut xs (xs[i]+1) p):p=i+1:=by
 have h1:¬p<i+1:=fun z=>by have:=c.hi i h (by omega);omega
 have h2:¬i+1<p:=fun z=>by
  have hs:i+1<xs.size:=by have:=c.le;omega
  have a:=c.lo (i+1) hs z
  have b:=u.lt hs (Nat.lt_succ_self i)
  omega
 omega
def cM (t:SetTable):Prop:=t.dummies = #[]/\Up t.place.toList
theorem q5 {a b:Nat}{led:Bool}:cM (SetTable.fresh a b led):=⟨rfl,List.Pairwise.nil⟩
theorem fM (t:SetTable)(n:Nat):cM (t.standIn n):=⟨rfl,by
 show List.Pairwise _ (Array.range n).toList
 rw[Array.toList_range]
 exact List.pairwise_lt_range⟩
theorem has_none (j:Nat):SetTable.has #[] j=false:=by
 unfold SetTable.has
 simp
theorem vz {t:SetTable}(g:cM t)(j:Nat):t.slot j = .empty∨∃i,t.slot j = .live i:=by
 unfold SetTable.slot
 dsimp only
 split
 ·exact .inr ⟨_,rfl⟩
 ·rw[g.1,has_none]
  exact .inl rfl
theorem vJ {t:SetTable}(g:cM t){j:Nat}(h:t.slot j = .empty):j∉t.place.toList:=fun hm=>by
 obtain⟨i,hi,e⟩:=Yb.mp hm
 have iV:i<t.place.size:=by simpa using hi
 have e':t.place[i]=j:=by simpa using e
 have c:=fK g.2 j
 have hp:SetTable.below t.place j=i:=by
  have h1:¬i<SetTable.below t.place j:=fun z=>by have:=c.lo i iV z;omega
  have h2:¬SetTable.below t.place j<i:=fun z=>by
   have hs:SetTable.below t.place j<t.place.size:=by omega
   have a:=c.hi _ hs (Jf _)
   have b:=g.2.lt iV z
   omega
  omega
 unfold SetTable.slot at h
 dsimp only at h
 rw[hp,Ub iV,e'] at h
 simp at h
theorem lO {t:SetTable}(g:cM t){h:Int}{j:Nat}{d:Option Nat}:∀(fuel:Nat) (p:SetTable.Probe),p.dummy=none->SetTable.probe.go t (fun _=>h+1) h fuel p=some (.empty j d)->t.slot j = .empty/\d=none
 | 0,p,hp,e=>by unfold SetTable.probe.go at e;cases e
 | fuel+1,p,hp,e=>by
  unfold SetTable.probe.go at e
  rcases vz g p.j with q|⟨i,q⟩
  ·rw[q] at e
   dsimp only at e
   cases e
   exact⟨q,hp⟩
  ·rw[q] at e
   dsimp only at e
   rw[if_neg (by rw[beq_iff_eq];omega)] at e
   refine lO g fuel _ ?_ e
   unfold SetTable.advance
   split
   ·exact hp
   ·exact hp
theorem wH {t:SetTable}(g:cM t){j:Nat}(h:t.slot j = .empty):cM (t.put j).1:=by
 have hn:=vJ g h
 have c:=fK g.2 j
 unfold SetTable.put
 refine⟨?_,?_⟩
 ·show(if SetTable.has t.dummies j=true then _ else t.dummies) = #[]
  rw[g.1,has_none,if_neg Jm]
 ·show Up (SetTable.insertAt t.place _ j).toList
  rw[SetTable.toList_insertAt]
  have u:Up t.place.toList:=g.2
  refine Ug.mpr ⟨List.Pairwise.sublist (Y8 _ _) u,List.pairwise_cons.mpr ⟨fun x hx =>?_,List.Pairwise.sublist (Wn _ _) u⟩,fun x hx y hy =>?_⟩
  ·obtain⟨i,hi,e⟩:=Yb.mp hx
   rw[List.getElem_drop] at e
   have iV:SetTable.below t.place j+i<t.place.size:=by rw[Uw] at hi;simp at hi;omega
   have:=c.hi _ iV (Um _ _)
   have e':t.place[SetTable.below t.place j+i]=x:=by simpa using e
   have hZ:j≠x:=fun z=>hn (by rw[z];exact Wq hx)
   omega
  ·have Qp:x<j:=by
    obtain⟨i,hi,e⟩:=Yb.mp hx
    rw[List.getElem_take] at e
    rw[J6] at hi
    have iV:i<t.place.size:=by simp at hi;omega
    have:=c.lo i iV (by omega)
    have e':t.place[i]=x:=by simpa using e
    omega
   rcases J5.mp hy with rfl|hy
   ·exact Qp
   ·obtain⟨i,hi,e⟩:=Yb.mp hy
    rw[List.getElem_drop] at e
    have iV:SetTable.below t.place j+i<t.place.size:=by rw[Uw] at hi;simp at hi;omega
    have:=c.hi _ iV (Um _ _)
    have e':t.place[SetTable.below t.place j+i]=y:=by simpa using e
    omega
theorem zT {t:SetTable}(g:cM t)(n:Nat):cM (t.orStandIn n):=by
 unfold SetTable.orStandIn
 split
 ·exact g
 ·exact fM t n
theorem xg {t:SetTable}(g:cM t)(es:Array (Int×Value))(h:Int)(x:Value):cM (layNew t es h x).2.1/\(layNew t es h x).2.1.led=t.led:=by
 unfold layNew
 split
 ·rename_i slot wasDummy hs
  dsimp only
  have ud:t.slot slot = .empty:=by
   unfold SetTable.freeSlot at hs
   split at hs
   ·rename_i j d hp
    unfold SetTable.probe at hp
    obtain⟨h1,h2⟩:=lO g _ _ rfl hp
    subst h2
    cases hs
    exact h1
   ·cases hs
  refine⟨zT (wH g ud) _,?_⟩
  unfold SetTable.orStandIn
  split<;>rfl
 ·exact⟨fM t _,rfl⟩
theorem ko {β:Type}(f:Nat->Option β):∀l:List Nat,List.Sublist ((l.filterMap fun j=>(f j).map (j, ·)).map (·.1)) l
 | []=>List.Sublist.refl _
 | j::l=>by
  rw[List.filterMap_cons]
  cases f j with
  | none=>exact List.Sublist.cons _ (ko f l)
  | some b=>exact List.Sublist.cons_cons _ (ko f l)
theorem vA {mask finger moves:Nat}{led plain:Bool}{hs:Array Int}{t:SetTable}{order:Array Nat}(e:SetTable.laid mask finger moves led plain hs=some (t,order)):cM t/\t.led=led:=by
 unfold SetTable.laid at e
 cases q:SetTable.layClean mask hs with
 | none=>rw[q] at e;cases e
 | some owner=>
  rw[q] at e
  cases e
  refine⟨⟨rfl,?_⟩,rfl⟩
  exact List.Pairwise.sublist (ko _ _) List.pairwise_lt_range
theorem rJ {t:SetTable}(es:Array (Int×Value))(n:Nat):cM (relayAll t es n).2.1/\(relayAll t es n).2.1.led=t.led:=by
 unfold relayAll
 split
 ·rename_i t' order hr
  dsimp only
  split
  ·unfold SetTable.relaid at hr
   exact vA hr
  ·exact⟨fM t _,rfl⟩
 ·exact⟨fM t _,rfl⟩
section
variable {prog:Program}{w:World}{K:Type}[DecidableEq K]{knd:PySem.KeyKind prog w K}{A:Around}{E:Value->Shared->Prop}{s:Shared}{a:Addr}
def i6 (w:World)(h:Heap)(a:Addr):Prop:=∃o es ep t,h.get? a=some o/\o.data = .set es ep t/\cM t/\(w.params.followText "set-order" = false->t.led=true)
theorem i6.at' {h h':Heap}(x:i6 w h a)(k:∀o,h.get? a=some o->h'.get? a=some o):i6 w h' a:=by
 obtain⟨o,es,ep,t,e,r⟩:=x
 exact⟨o,es,ep,t,k _ e,r⟩
def bR (knd:PySem.KeyKind prog w K)(h:Heap)(a:Addr)(D:List K):Prop:=jb knd h a D/\i6 w h a
theorem pB {o:Obj}{es:Array (Int×Value)}{ep:Nat}{t:SetTable}(ho:s.heap.get? a=some o)(hd:o.data = .set es ep t){es':Array (Int×Value)}{t':SetTable}(g:cM t')(l:w.params.followText "set-order" = false->t'.led=true):
  (s.heap.update a (Obj.putSet es' t')).get? a=some { o with data := .set es' (ep+1) t' } /\ i6 w (s.heap.update a (Obj.putSet es' t')) a:=by
 have e:=Ur (Obj.putSet es' t') ho (by rw[putSet_of es' t' hd];rfl)
 rw[putSet_of es' t' hd] at e
 exact⟨e,_,_,_,_,e,rfl,g,l⟩
theorem sH {D:List K}{k:K}{x:Value}{Q:Bool->Shared->Prop}(hk:knd.is k x=true)(hx:x.scannable=true)(S:bR knd s.heap a D)(room:D.length+1<scanBound)
  (fin:∀b h',U6 a s.heap h'->bR knd h' a (oneMore D k)->Q b { s with heap:=h' }):wpAny (model prog w) A (setAddHashed a x (knd.hash k)) Q E s:=by
 obtain⟨HK,o',es',ep',t',ho',hd',gt',ld'⟩:=S
 obtain⟨o,es,ep,t,ho,ex,hd,el,mem,bnd,fit,len⟩:=id HK
 obtain⟨gt,ld⟩:cM t/\(w.params.followText "set-order" = false->t.led=true):=by
  rw[ho] at ho';cases ho'
  rw[hd] at hd';cases hd'
  exact⟨gt',ld'⟩
 have O6:=byScan_of hx bnd el
 unfold setAddHashed setAddHashedIn setAddByScan
 refine wpAny_holding (wpAny_bind (wpAny_setState_of ho hd fit ?_))
 dsimp only
 rw[O6,if_pos rfl]
 refine wpAny_bind (wpAny_bind (wpAny_rule (wpAny_bind (wpAny_setScan_of hk ho hd fit el ?_))))
 have EB:∀(b:Bool) {s1:Shared} {Q':Unit->Shared->Prop},Q' () s1->wpAny (model prog w) A (match b with|true=>rule "set.scan.the-table-gave-way" | false=>pure ()) Q' E s1:=fun b s1 Q' q=>by
  cases b
  ·exact wpAny_pure q
  ·exact wpAny_rule q
 cases hr:es.toList.findIdx? (fun e=>knd.is k e.2) with
 | some j=>
  obtain⟨hj,hp,_⟩:=List.findIdx?_eq_some_iff_getElem.mp hr
  have fR:k∈D:=of_decide_eq_true ((mem k).mpr ⟨_,Jn hj,hp⟩)
  refine wpAny_pure (wpAny_pure ?_)
  have q:=fin false s.heap (U6.refl a s.heap) (by
   unfold oneMore
   rw[if_pos fR]
   exact⟨HK,_,_,_,_,ho,hd,gt,ld⟩)
  exact q
 | none=>
  have lY:k∉D:=fun z=>by
   obtain⟨e,he,hp⟩:=(mem k).mp (decide_eq_true z)
   have:=List.findIdx?_eq_none_iff.mp hr e he
   rw[hp] at this;cases this
  have more:∀k',decide (k'∈oneMore D k)=(decide (k'∈D)||decide (k'=k)):=fun k'=>by
   unfold oneMore
   rw[if_neg lY]
   simp[Bool.decide_or]
  obtain⟨g1,l1⟩:=xg gt es (knd.hash k) x
  have pm:=layNew_perm t es (knd.hash k) x
  have ft:=layNew_fits t es (knd.hash k) x
  dsimp only
  generalize layNew t es (knd.hash k) x=L at g1 l1 pm ft ⊢
  obtain⟨es1,t1,dummy,gv⟩:=L
  dsimp only at g1 l1 pm ft ⊢
  rw[Yl] at pm
  have Ob:ElemsOf knd es1.toList:=(el.push hk hx).perm pm
  have E4:∀k',decide (k'∈oneMore D k)=true ↔ ∃e∈es1.toList,knd.is k' e.2=true:=fun k'=>by
   rw[more];exact mem_push_iff hk mem pm k'
  have N6:es1.size=(oneMore D k).length:=by
   unfold oneMore
   rw[if_neg lY,<-Jw,pm.length_eq,Je,Je,Jw,len];rfl
  have OU:(oneMore D k).length=D.length+1:=by
   unfold oneMore
   rw[if_neg lY,Je];rfl
  have HD:es1.size<scanBound:=by omega
  have LK:w.params.followText "set-order" = false->t1.led=true:=fun z=>l1.trans (ld z)
  have tail:∀t2:SetTable,cM t2->(w.params.followText "set-order" = false->t2.led=true)->t2.fits es1.size=true->∀c:Bool,
    wpAny (model prog w) A (do
     storeSet a es1 t2
     if c=true then do
       (match (relayAll t2 es1 (SetTable.grown es1.size)).2.2 with|true=>rule "set.scan.the-table-gave-way" | false=>pure ())
       storeSet a (relayAll t2 es1 (SetTable.grown es1.size)).1 (relayAll t2 es1 (SetTable.grown es1.size)).2.1
       pure (some true)
      else pure (some true)) (fun r s'=>r=some true/\∃h',s'={ s with heap:=h' } /\ U6 a s.heap h'/\bR knd h' a (oneMore D k)) E s:=by
   intro t2 g2 ld2 ft2 c
   refine wpAny_bind (wpAny_storeSet_of ho hd ?_ (fits_of_scanBound HD))
   obtain⟨e1,gs1⟩:=pB (es':=es1) ho hd g2 ld2
   have Em:=U6.update s.heap a (Obj.putSet es1 t2)
   cases c with
   | false=>
    rw[if_neg Jm]
    exact wpAny_pure ⟨rfl,_,rfl,Em,⟨_,_,_,_,e1,ex,rfl,Ob,E4,HD,ft2,N6⟩,gs1⟩
   | true=>
    rw[if_pos rfl]
    have Eh:=relayAll_perm t2 es1 (SetTable.grown es1.size)
    have LZ:=relayAll_fits t2 es1 (SetTable.grown es1.size)
    obtain⟨g3,l3⟩:=rJ (t:=t2) es1 (SetTable.grown es1.size)
    generalize relayAll t2 es1 (SetTable.grown es1.size)=L2 at Eh LZ g3 l3 ⊢
    obtain⟨es2,t3,gv2⟩:=L2
    dsimp only at Eh LZ g3 l3 ⊢
    have NM:es2.size=es1.size:=by rw[<-Jw,Eh.length_eq,Jw]
    refine wpAny_bind (EB _ ?_)
    refine wpAny_bind (wpAny_storeSet_of e1 rfl ?_ (fits_of_scanBound (by omega)))
    obtain⟨e2,gs2⟩:=pB (s:={ s with heap:=s.heap.update a (Obj.putSet es1 t2) }) (es':=es2) e1 rfl g3 (fun z=>l3.trans (ld2 z))
    refine wpAny_pure ⟨rfl,_,rfl,Em.trans (U6.update _ a _),⟨_,_,_,_,e2,ex,rfl,Ob.perm Eh,fun k'=>(E4 k').trans ⟨fun hz_=>ae.el hz_ _ fun e he q=>⟨e,Eh.mem_iff.mpr he,q⟩,fun hz_=>ae.el hz_ _ fun e he q=>⟨e,Eh.mem_iff.mp he,q⟩⟩,by omega,LZ,NM.trans N6⟩,gs2⟩
  have out:∀(r:Option Bool) s',(r=some true/\∃h',s'={ s with heap:=h' } /\ U6 a s.heap h'/\bR knd h' a (oneMore D k))->wpAny (model prog w) A (match r with|some added=>pure added|none=>setAddHashedIn a x (knd.hash k) 99999) Q E s':=by
   rintro r s' ⟨rfl,h',rfl,sb,sk⟩
   exact wpAny_pure (fin true h' sb sk)
  refine wpAny_bind (EB _ ?_)
  cases mG:t1.plain with
  | false=>
   rw[if_neg Jm]
   refine wpAny_bind (wpAny_pure ?_)
   rw[if_pos rfl]
   exact wpAny_mono (tail t1 g1 LK ft _) (fun r s' q=>out r s' q) fun _ _ z=>z
  | true=>
   rw[if_pos rfl]
   refine wpAny_bind ?_
   rw[hashByValue_scannable 8 hx]
   refine wpAny_pure ?_
   cases plainKind x with
   | true=>
    rw[if_pos rfl]
    exact wpAny_mono (tail t1 g1 LK ft _) (fun r s' q=>out r s' q) fun _ _ z=>z
   | false=>
    rw[if_neg Jm]
    exact wpAny_mono (tail { t1 with plain:=false } g1 LK (SetTable.fits_plain_off ft) _) (fun r s' q=>out r s' q) fun _ _ z=>z
theorem bR.at' {D:List K}{h h':Heap}(x:bR knd h a D)(k:∀o,h.get? a=some o->h'.get? a=some o):bR knd h' a D:=⟨x.1.at' k,x.2.at' k⟩
end
structure Ds (P:Program)(w:World)(K:Type)[DecidableEq K] where
 knd:PySem.KeyKind P w K
 v:K->V
 ok:∀k u,RelV (v k) u->knd.is k u=true/\u.scannable=true
noncomputable def AR (P:Program)(w:World):Ds P w Str:=⟨strKind P w,V.str,fun k u r=>by obtain⟨t,rfl⟩:=r;exact⟨strKind_is _ _ _ _,rfl⟩⟩
noncomputable def xZ {P:Program}{w:World}{K:Type}[DecidableEq K](kv:Ds P w K)(a:Addr)(D:List K):HO := .ext fun h=>bR kv.knd h a D
theorem zF {P:Program}{w:World}{K:Type}[DecidableEq K]{kv:Ds P w K}{a:Addr}{D:List K}{H:Hp}{h:Heap}(x:bR kv.knd h a D):bq P w H h a (xZ kv a D):=by
 have x':=x.1
 obtain⟨o,es,ep,t,e,rest⟩:=x'
 exact⟨x,⟨o,e⟩,fun h1 h2 y k=>bR.at' y k⟩
theorem sP {prog:Program}{w:World}{K:Type}[DecidableEq K]{knd:PySem.KeyKind prog w K}{h:Heap}{a:Addr}{led:Bool}(e:h.get? a=some (cq led)):jb knd h a []:=by
 have z:=(setObjOf_fresh (knd:=knd) led).setOf e (by decide)
 have q:(fun k:K=>decide (k∈([]:List K)))=fun _=>false:=by funext k;simp
 show Heap.SetOf knd _ _ (fun k=>decide (k∈([]:List K))) 0
 rw[q]
 exact z
theorem sQ {prog:Program}{w:World}{K:Type}[DecidableEq K]{knd:PySem.KeyKind prog w K}{h:Heap}{a:Addr}{led:Bool}(l:w.params.followText "set-order" = false->led=true)(e:h.get? a=some (cq led)):bR knd h a []:=⟨sP e,_,_,_,_,e,rfl,q5,l⟩
section
variable {X:Cx}
theorem yx:yf X "list.reverse" (fun x vs H Q=>∃l xs,x = .ref l/\vs=[]/\H l=some (.lst xs)/\∀H',jT H l (.lst xs.reverse) H'->Q .non H'):=by
 intro pins s σ H x vs v us Q I rx rv h
 obtain⟨l,xs,rfl,rfl,hH,q⟩:=h
 cases rx
 cases rv
 obtain⟨z,az,n,r,hl,e⟩:=I.l8 hH
 refine call_meets F.slot_list_reverse ⟨_,e,rfl⟩ F.entry_list_reverse (F.args_list_reverse_1 _) (AutoListH.list_reverse_list_0 l az.toArray n (by rw[Jr];omega)) ⟨e,?_⟩
 exact⟨.non,_,I.vb (its':=az.reverse) hH e (by simp) r.rev (by rw[List.length_reverse];omega),rfl,q _ ⟨rfl⟩⟩
theorem zI {x:Str}{z:Str}{t:Tok}{pos:Pos}(hg:Gl X x)(hm:X.mg x=some (.str z t))(hd:(x==("__debug__" : Str))=false:=by decide):PE X (.Name x pos) (tC (.str z)):=tE (v := .str z) hg hm ⟨t,rfl⟩ hd
end
theorem oH:∀{ss:List Str} {us:List Value},StrsAre us ss->Vals (ss.map V.str) us:=by
 intro ss us h
 induction h with
 | nil=>exact .nil
 | cons _ _ _ ih=>exact .cons ⟨_,rfl⟩ ih
open PySem.W
section
variable {X:Cx}{H Hj:Hp}{s sj:Shared}{pins:List (Addr×Obj)}{σ:St}
structure Run (X:Cx)(H:Hp)(s:Shared)(Hj:Hp)(sj:Shared):Prop where
 un:Un (m5 X.stack) [] H Hj s.heap sj.heap
 aR:fZ X.prog X.w Hj sj.heap
 os:sj.os=s.os
 bare:AllBare sj.gens
theorem Run.inv (r:Run X H s Hj sj)(I:Inv X pins σ H s):Inv X pins σ Hj sj:=I.tI (ch:=[]) r.os r.un r.aR r.bare fun _ z=>by cases z
theorem Run.start (I:Inv X pins σ H s):Run X H s H s:=⟨Un.refl,I.aR,rfl,I.bare⟩
theorem Run.kept {h':Heap}(r:Run X H s Hj sj)(k:∀b u,sj.heap.get? b=some u->h'.get? b=some u):Run X H s Hj { sj with heap:=h' }:=⟨r.un.trans (Un.kept k),r.aR.kept k,r.os,r.bare⟩
theorem Run.alter {h':Heap}{b:Addr}(r:Run X H s Hj sj)(hb:s.heap.get? b=none)(hn:Hj b=none)(k:∀c u,c≠b->sj.heap.get? c=some u->h'.get? c=some u):Run X H s Hj { sj with heap:=h' }:=by
 have ne:∀{c:Addr} {o:Obj},s.heap.get? c=some o->c≠b:=fun e z=>by rw[z,hb] at e;cases e
 refine⟨⟨fun c o q n h1 h2=>k c o (ne q) (r.un.keep c o q n h1 h2),fun c o q n h1 h2 =>?_,r.un.free,fun c o q h1 =>?_,r.un.gC,r.un.fB,r.un.gM⟩,fun a o e=>(r.aR a o e).kM (fun c u hc q=>k c u ?_ q) (fun _ q=>q) fun _ _ q=>q,r.os,r.bare⟩
 ·obtain⟨sl,e⟩:=r.un.slot c o q n h1 h2
  exact⟨sl,k c _ (ne q) e⟩
 ·obtain⟨o',e⟩:=r.un.there c o q h1
  exact⟨o',k c _ (ne q) e⟩
 ·rintro rfl
  rcases hc with rfl|hc
  ·rw[hn] at e;cases e
  ·rw[hn] at hc;cases hc
theorem Run.told {b:Addr}{o:HO}(r:Run X H s Hj sj)(hb:s.heap.get? b=none)(hn:Hj b=none)(new:bq X.prog X.w (upd Hj b o) sj.heap b o):Run X H s (upd Hj b o) sj:=by
 have ne:∀{c:Addr} {o:Obj},s.heap.get? c=some o->c≠b:=fun e z=>by rw[z,hb] at e;cases e
 have hH:∀{c:Addr} {q:HO},Hj c=some q->c≠b:=fun e z=>by rw[z,hn] at e;cases e
 refine⟨⟨r.un.keep,r.un.slot,fun c o q n h1=>by rw[aj (ne q)];exact r.un.free c o q n h1,r.un.there,fun c xs q =>?_,fun c o u q =>?_,fun c ps q =>?_⟩,fun a u e =>?_,r.os,r.bare⟩
 ·have:=r.un.gC c xs q;rw[aj (hH this)];exact this
 ·have:=r.un.fB c o u q;rw[aj (hH this)];exact this
 ·obtain⟨more,e⟩:=r.un.gM c ps q
  exact⟨more,by rw[aj (hH e)];exact e⟩
 ·by_cases z:a=b
  ·subst z;rw[ar] at e;cases e;exact new
  ·rw[aj z] at e
   exact(r.aR a u e).kM (fun _ _ _ q=>q) (fun c q=>by rw[aj (hH q)];exact q) fun c xs q=>by rw[aj (hH q)];exact q
theorem Run.called {Q:VK}{u:Value}{s':Shared}(r:Run X H s Hj sj)(c:CE X.stack X.prog X.w Hj sj Q u s'):∃v H',Run X H s H' s'/\RelV v u/\Q v H'/\Un (m5 X.stack) [] Hj H' sj.heap s'.heap:=by
 obtain⟨v,H',os,bare,un,aR,rv,q⟩:=c
 exact⟨v,H',⟨r.un.trans un,aR,os.trans r.os,bare⟩,rv,q,un⟩
end
def yP (X:Cx)(f:Value)(r:V->Hp->VK->Prop):Prop:=
 ∀ ⦃pins:List (Addr×Obj)⦄ (s:Shared) (σ:St) (H:Hp) (x:V) (u:Value) (Q:VK),Inv X pins σ H s->RelV x u->r x H Q ->
  wpAny (model X.prog X.w) X.A.in1.in1 (call f [u]) (CE X.stack X.prog X.w H s Q) (fun _ _=>False) s
theorem Cw {X:Cx}{k:Nat}{f:Addr}{fd:FuncData}{ps:List Str}{sp:Sp}(F:bI X.prog X.w X.K X.mg X.base fY k f fd ps sp)(hr:dS (k+2) X.A)(hb:Binds X.K fd ps []):yP X (.ref f) fun x H Q=>sp [x] H Q E0:=by
 intro pins s σ H x u Q I rx h
 have rv:Vals [x] [u] := .cons rx .nil
 have hl:([u]++([]:List Value)).length=ps.length:=F.len _ _ _ _ h
 have b:=hb s [u] I.mH hl
 rw[Uo] at b
 refine wpAny_call (codeAny_mono (F.run X.A.in1.in1 X.stack s H ⟨[u],[]⟩ [u] [x] Q E0 hr.in1.in1 I.Cd.in1.in1 b rv h) fun r s' hq =>?_)
 cases r with
 | error e=>exact hq.elim
 | ok fl=>cases fl with
  | ret u=>exact hq
  | next=>exact False.elim hq
  | brk=>exact False.elim hq
  | cont=>exact False.elim hq
def ff (a b:Str):Prop:=a.length<b.length∨(a.length=b.length/\a.cps.toList<b.cps.toList)
instance (a b:Str):Decidable (ff a b):=by unfold ff;infer_instance
theorem AD {x y:Str}(h:x.cps.toList=y.cps.toList):x=y:=by
 cases x;cases y;congr 1;exact Array.toList_inj.mp h
theorem jS (a:Str):¬ff a a:=fun h=>by
 rcases h with h|⟨_,h⟩
 ·omega
 ·exact List.lt_irrefl _ h
theorem sN {a b c:Str}(h1:ff a b)(h2:ff b c):ff a c:=by
 rcases h1 with h1|⟨e1,h1⟩<;>rcases h2 with h2|⟨e2,h2⟩
 ·exact .inl (by omega)
 ·exact .inl (by omega)
 ·exact .inl (by omega)
 ·exact .inr ⟨by omega,List.lt_trans h1 h2⟩
theorem sY {a b:Str}(h:a≠b):ff a b∨ff b a:=by
 by_cases h1:a.length<b.length
 ·exact .inl (.inl h1)
 by_cases h2:b.length<a.length
 ·exact .inr (.inl h2)
 by_cases h3:a.cps.toList<b.cps.toList
 ·exact .inl (.inr ⟨by omega,h3⟩)
 ·refine .inr (.inr ⟨by omega,?_⟩)
  rcases List.le_iff_lt_or_eq.mp (List.not_lt.mp h3) with z|z
  ·exact z
  ·exact absurd (AD z).symm h
noncomputable def rk (L:List Str)(t:Str):Nat:=L.countP fun u=>decide (ff u t)
theorem mf {α:Type}{p q: α->Bool}:∀{L:List α} {t: α},(∀v∈L,p v=true->q v=true)->t∈L->q t=true->p t=false->L.countP p<L.countP q
 | [],_,_,m,_,_=>by cases m
 | v::L,t,h,m,h1,h2=>by
  have hle:L.countP p<=L.countP q:=List.countP_mono_left fun v hv=>h v (Jq _ hv)
  rw[List.countP_cons,List.countP_cons]
  rcases J5.mp m with rfl|m
  ·rw[h1,h2];simp;omega
  ·have:=mf (fun v hv=>h v (Jq _ hv)) m h1 h2
   by_cases hp:p v=true
   ·rw[hp,h v Js hp];simp;omega
   ·rw[if_neg hp];omega
theorem Bz {L:List Str}{t u:Str}(ht:t∈L)(h:ff t u):rk L t<rk L u:=
 mf (fun v _ hv=>decide_eq_true (sN (of_decide_eq_true hv) h)) ht (decide_eq_true h) (decide_eq_false (jS t))
theorem xp {L:List Str}{t u:Str}(ht:t∈L)(hu:u∈L):ff t u↔rk L t<rk L u:=by
 refine⟨Bz ht,fun h =>?_⟩
 by_cases e:t=u
 ·subst e;omega
 rcases sY e with z|z
 ·exact z
 ·have:=Bz hu z;omega
noncomputable def ja (H:Hp)(v:Value):Str:=match v with
 | .ref q=>match H q with
  | some (.tup [_,.str t])=>t
  | _=>⟨#[]⟩
 | _=>⟨#[]⟩
noncomputable def Ap (H:Hp)(L:List Str)(p:Keyed):Int:=rk L (ja H p.1)
def fm (H:Hp)(t:Str)(v:Value):Prop:=∃q,v = .ref q/\H q=some (.tup [.int t.length,.str t])
theorem fm.txt {H:Hp}{t:Str}{v:Value}(h:fm H t v):ja H v=t:=by
 obtain⟨q,rfl,e⟩:=h
 unfold ja;simp only[e]
theorem fm.obj {P:Program}{w:World}{H:Hp}{t:Str}{v:Value}{h:Heap}(k:fm H t v)(ok:fZ P w H h):∃q o n t1 t2,v = .ref q/\h.get? q=some o/\o.cls = .type "tuple" /\ o.data = .seq #[.int t.length t1,.str t t2] n:=by
 obtain⟨q,rfl,e⟩:=k
 obtain⟨_,az,r,o,e1,c,n,d⟩:=ok q _ e
 obtain⟨w1,w2,rfl,⟨t1,rfl⟩,⟨t2,rfl⟩⟩:=vals2 r
 exact⟨q,o,n,t1,t2,rfl,e1,c,d⟩
noncomputable abbrev mL:SortKind:=tuples' (Value.type "int" != Value.type "tuple")
section
variable {prog:Program}{w:World}{A:Around}{E:Value->Shared->Prop}{s:Shared}
theorem B6 {H:Hp}{L:List Str}{a₀:Array Keyed}(ok:fZ prog w H s.heap)(h0:∀x∈a₀.toList,∃t,t∈L/\fm H t x.1):iT prog w A E s a₀ (Ap H L) mL:=fun st x y Q hx hy hk q=>by
 refine ae.el (h0 x hx) _ ?_
 rintro t mt kt
 refine ae.el (h0 y hy) _ ?_
 rintro u mu ku
 have q':Q (some (decide (ff t u))) st:=by
  have e:decide (Ap H L x<Ap H L y)=decide (ff t u):=decide_eq_decide.mpr (by unfold Ap;rw[kt.txt,ku.txt,Int.ofNat_lt];exact(xp mt mu).symm)
  rw[e] at q;exact q
 clear q
 refine ae.el (kt.obj ok) _ ?_
 rintro q1 o1 n1 t1 t2 e1 g1 _ d1
 refine ae.el (ku.obj ok) _ ?_
 rintro q2 o2 n2 u1 u2 e2 g2 _ d2
 rw[lt'_eq]
 refine wpS_bind (wpS_get ?_)
 rw[hk,e1,e2]
 refine wpS_bind (wpS_lift (wpAny_attempt (wpAny_mono (kat_lt g1 d1 g2 d2 (Q:=fun b s'=>b=decide (ff t u)/\s'=s) ?_) (fun b s' hb =>?_) (fun _ _ z=>False.elim z))))
 ·show KatLex _ _ _ _ _ _ [(_,_),(_,_)] 0 s
  refine kat_cons (wpAny_eqBool_int ?_)
  by_cases c:t.length=u.length
  ·rw[show((t.length:Int)==(u.length:Int))=true by simp -iota [c]]
   refine kat_yes (kat_cons (wpAny_eqBool_str ?_))
   by_cases d:t=u
   ·rw[decide_eq_true d]
    refine kat_yes (kat_nil ⟨?_,rfl⟩)
    subst d
    exact(decide_eq_false (jS t)).symm
   ·rw[decide_eq_false d]
    refine kat_no (kat_one _ _ (lt_str ?_))
    refine⟨?_,rfl⟩
    refine decide_eq_decide.mpr ⟨fun z =>.inr ⟨c,z⟩,fun z =>?_⟩
    rcases z with z|z
    ·omega
    ·exact z.2
  ·rw[show((t.length:Int)==(u.length:Int))=false by simp;omega]
   refine kat_no (oneLt_int ⟨?_,rfl⟩)
   refine decide_eq_decide.mpr ⟨fun z =>.inl (by omega),fun z =>?_⟩
   rcases z with z|z
   ·omega
   ·exact absurd z.1 c
 ·obtain⟨rfl,rfl⟩:=hb
  exact⟨rfl,wpS_pure q'⟩
end
section
variable {X:Cx}{H:Hp}{s0:Shared}{pins:List (Addr×Obj)}{σ:St}{D kS:Addr}{ts:List Str}{vs:List Value}
structure Kj (X:Cx)(H:Hp)(s0:Shared)(D kS:Addr)(e1:Nat)(ts:List Str)(Hj:Hp)(ks:List Value)(sj:Shared):Prop where
 run:Run X H s0 Hj sj
 same:au H Hj
 dn:Hj D=none
 kn:Hj kS=none
 d0:s0.heap.get? D=none
 k0:s0.heap.get? kS=none
 ne:kS≠D
 dat:sj.heap.get? D=some (seqObj "list" #[] e1)
 kat:∃e,sj.heap.get? kS=some (seqObj "list" ks.toArray e)
 keys:Paired (fm Hj) ts ks
theorem sM {α β:Type}{R: α -> β->Prop}{a: α}{b: β}:∀{l₁:List α} {l₂:List β},Paired R l₁ l₂->R a b->Paired R (l₁++[a]) (l₂++[b]):=by
 intro l₁ l₂ t h
 induction t with
 | nil=>exact .cons h .nil
 | cons r _ ih=>exact .cons r ih
theorem BJ (I:Inv X pins σ H s0){b:Addr}(h:s0.heap.get? b=none):b∉m5 X.stack:=fun hb=>by
 refine ae.el (I.stack.mem hb) _ ?_
 rintro _ o e _
 rw[h] at e;cases e
theorem fm.new {H H':Hp}{t:Str}{v:Value}{q:Addr}{o:HO}(k:fm H t v)(n:dM H q o H'):fm H' t v:=by
 obtain⟨a,rfl,e⟩:=k
 exact⟨a,rfl,n.same _ _ e⟩
theorem Kj.more {e1:Nat}{Hj:Hp}{ks:List Value}{sj s':Shared}{t:Str}{u:Value}(I:Inv X pins σ H s0)(k:Kj X H s0 D kS e1 ts Hj ks sj)(hz:ks.length<sizeLine)
  (c:CE X.stack X.prog X.w Hj sj (fun v H'=>∃q,v = .ref q/\dM Hj q (.tup [.int t.length,.str t]) H') u s') :
  ∃e,s'.heap.get? kS=some (seqObj "list" ks.toArray e)/\∃Hi,Kj X H s0 D kS e1 (ts++[t]) Hi (ks++[u]) { s' with heap:=s'.heap.update kS (Obj.mapSeq (·.push u)) }:=by
 obtain⟨v,H',r',rv,⟨q,rfl,n⟩,un⟩:=k.run.called c
 cases rv
 obtain⟨e,hk⟩:=k.kat
 have nd:=un.keep D _ k.dat k.dn (BJ I k.d0) (by simp)
 have nk:=un.keep kS _ hk k.kn (BJ I k.k0) (by simp)
 have fd:=un.free D _ k.dat k.dn (by simp)
 have fk:=un.free kS _ hk k.kn (by simp)
 refine⟨e,nk,H',?_⟩
 refine⟨r'.alter k.k0 fk fun c u hc q=>by rw[Yz _ _ _ _ hc];exact q,fun a o z=>n.same _ _ (k.same a o z),fd,fk,k.d0,k.k0,k.ne,?_,?_,?_⟩
 ·show(s'.heap.update _ _).get? D=_
  rw[Yz _ _ _ _ k.ne.symm];exact nd
 ·have ea:ks.toArray.push (Value.ref q)=List.toArray (ks++[.ref q]):=by simp
  exact⟨_,by rw[<-ea];exact get?_update_seq nk (·.push (Value.ref q))⟩
 ·exact sM (Paired.imp' (fun a b z=>fm.new z n) k.keys) ⟨q,rfl,n.at⟩
theorem lM {Hn:Hp}:∀{ts:List Str} {ks vs:List Value},Paired (fm Hn) ts ks->Vals (ts.map V.str) vs->(ks.zip vs).map (fun p=>ja Hn p.1)=ts/\∀p∈ks.zip vs,∃t,t∈ts/\fm Hn t p.1/\RelV (.str t) p.2
 | [],_,_,.nil,.nil=>⟨rfl,fun _ h=>by cases h⟩
 | t::ts,_,_,.cons r a,.cons q b=>by
  obtain⟨e,m⟩:=lM a b
  refine⟨?_,fun p hp =>?_⟩
  ·rw[List.zip_cons_cons,Uc,e]
   show ja Hn _::ts=_
   rw[r.txt]
  ·rw[List.zip_cons_cons] at hp
   rcases J5.mp hp with rfl|hp
   ·exact⟨t,Js,r,q⟩
   ·obtain⟨t,h1,h2⟩:=m p hp
    exact⟨t,Jq _ h1,h2⟩
theorem pj {Hn:Hp}:∀{l:List Keyed},(∀p∈l,RelV (.str (ja Hn p.1)) p.2)->Vals ((l.map fun p=>ja Hn p.1).map V.str) (l.map (·.2))
 | [],_ =>.nil
 | p::l,h =>.cons (h p Js) (pj fun q hq=>h q (Jq _ hq))
def C2 (X:Cx)(H:Hp)(s0:Shared)(D:Addr)(ts:List Str)(P:Shared->Prop):Prop:=
 ∀(us:List Str) (out:Array Value) (Hn:Hp) (sn:Shared) (e:Nat),Run X H s0 Hn sn->au H Hn->Hn D=none->sn.heap.get? D=some (seqObj "list" out e)->Vals (us.map V.str) out.toList->us.Perm ts->us.Pairwise (fun a b =>¬ff b a)->P sn
theorem lG {A:Around}{E:Value->Shared->Prop}{e1:Nat}{Hn:Hp}{ks:List Value}{sn:Shared}{P:PySem.Fin->Shared->Prop}{st:SortSt}(k:Kj X H s0 D kS e1 ts Hn ks sn)(rv:Vals (ts.map V.str) vs)(hz:ts.length<=sizeLine)
  (hp:(arrOf st).Perm (ks.toArray.zip vs.toArray)) (hf:failedOf st=none) (hs:Sg (Ap Hn ts) (arrOf st) 0 (arrOf st).size) (h:C2 X H s0 D ts fun sn=>P (.done (.ret .none)) sn) :
  wpAny (model X.prog X.w) A (ksk_tail D false e1 (.ref kS) st) P E sn:=by
 obtain⟨e,hk⟩:=k.kat
 have lk:ks.length=ts.length:=k.keys.length.symm
 have mG:(arrOf st).toList.Perm (ks.zip vs):=by
  have:=Wf.mp hp
  rw[ksk_zip] at this;exact this
 obtain⟨z1,z2⟩:=lM k.keys rv
 have z3:∀p∈(arrOf st).toList,∃t,t∈ts/\fm Hn t p.1/\RelV (.str t) p.2:=fun p h=>z2 p (mG.subset h)
 have up:((arrOf st).toList.map fun p=>ja Hn p.1).Perm ts:=by rw[<-z1];exact mG.map _
 have ul:=up.length_eq
 rw[Ja,Jw] at ul
 have d1:(sn.heap.update kS (Obj.mapSeq fun _=>(#[]:Array Value))).get? D=some (seqObj "list" #[] e1):=by rw[Yz _ _ _ _ k.ne.symm];exact k.dat
 unfold ksk_tail
 try dsimp only
 refine wpAny_bind (listUpdate_at hk rfl ?_ (by rw[Jr];omega) (Us _))
 refine wpAny_bind (wpAny_letGo ?_)
 refine wpAny_bind (seqEpoch_at d1 rfl ?_)
 simp -iota only [Ua,if_false]
 refine wpAny_bind (listUpdate_at d1 rfl ?_ (Us _) (by rw[Array.size_map];omega))
 rw[hf]
 simp -iota only [bne_self_eq_false,Ua,if_false]
 obtain⟨e2,g2⟩:∃e2,((sn.heap.update kS (Obj.mapSeq fun _=>(#[]:Array Value))).update D (Obj.mapSeq fun _=>(arrOf st).map (·.2))).get? D=some (seqObj "list" ((arrOf st).map (·.2)) e2):=⟨_,get?_update_seq d1 fun _=>(arrOf st).map (·.2)⟩
 have r1:=k.run.alter (h':=sn.heap.update kS (Obj.mapSeq fun _=>(#[]:Array Value))) k.k0 k.kn fun c u hc q=>by rw[Yz _ _ _ _ hc];exact q
 have r2:=r1.alter (h':=(sn.heap.update kS (Obj.mapSeq fun _=>(#[]:Array Value))).update D (Obj.mapSeq fun _=>(arrOf st).map (·.2))) k.d0 k.dn fun c u hc q=>by rw[Yz _ _ _ _ hc];exact q
 refine wpAny_pure (h _ _ Hn _ e2 r2 k.same k.dn g2 ?_ up ?_)
 ·rw[Array.toList_map]
  exact pj fun p hp=>by
   refine ae.el (z3 p hp) _ ?_
   rintro t _ h2 h3
   rw[h2.txt];exact h3
 ·rw[List.pairwise_map,Yc]
  intro i j hi hj ij
  rw[Jw] at hi hj
  have q:=hs i j (Us _) (Uy ij) hj
  have ki:∀{i:Nat} (hi:i<(arrOf st).size),ky (Ap Hn ts) (arrOf st) i=rk ts (ja Hn ((arrOf st)[i]).1):=fun{i} hi=>by unfold ky;rw[Ub hi];rfl
  rw[ki hi,ki hj] at q
  rw[Array.getElem_toList,Array.getElem_toList]
  obtain⟨t,m1,k1,_⟩:=z3 (arrOf st)[i] (by rw[<-Array.getElem_toList];exact Jn _)
  obtain⟨u,m2,k2,_⟩:=z3 (arrOf st)[j] (by rw[<-Array.getElem_toList];exact Jn _)
  rw[k1.txt,k2.txt] at q ⊢
  intro z
  have:=(xp m2 m1).mp z
  omega
theorem zw {P:Program}{w:World}{Hn:Hp}{h:Heap}(ok:fZ P w Hn h):∀{ts:List Str} {ks:List Value},Paired (fm Hn) ts ks->∃fs,KatTups h ks fs/\fs.length=ks.length/\∀v∈fs,∃z t,v=Value.int z t:=by
 intro ts ks k
 induction k with
 | nil=>exact⟨[],.nil,rfl,fun v hv=>by cases hv⟩
 | @cons t _ _ _ r _ ih=>
  refine ae.el ih _ ?_
  rintro fs a l q
  refine ae.el (r.obj ok) _ ?_
  rintro x o n t1 t2 rfl e1 e2 e3
  refine⟨.int t.length t1::fs,.cons e1 e2 e3 rfl a,by rw[Jt,Jt,l],fun v hv =>?_⟩
  rcases J5.mp hv with rfl|hv
  ·exact⟨_,_,rfl⟩
  ·exact q v hv
theorem uL {A:Around}{E:Value->Shared->Prop}{e1:Nat}{Hn:Hp}{ks:List Value}{sn:Shared}{P:PySem.Fin->Shared->Prop}(k:Kj X H s0 D kS e1 ts Hn ks sn)(rv:Vals (ts.map V.str) vs)(hz:ts.length<=sizeLine)
  (h:C2 X H s0 D ts fun sn=>P (.done (.ret .none)) sn):wpAny (model X.prog X.w) A (ksk_end D false vs.toArray e1 (.ref kS) ks.toArray) P E sn:=by
 have lk:ks.length=ts.length:=k.keys.length.symm
 have lv:vs.length=ts.length:=by have:=rv.length;rw[Ja] at this;exact this.symm
 obtain⟨z1,z2⟩:=lM k.keys rv
 unfold ksk_end
 try dsimp only
 simp -iota only [Ua,if_false]
 by_cases h2:vs.toArray.size<2
 ·rw[if_pos h2,if_pos h2]
  refine wpAny_bind (wpAny_pure ?_)
  rw[StateT.run_pure]
  refine wpAny_bind (wpAny_pure ?_)
  refine lG k rv hz (Array.Perm.refl _) rfl (fun i j _ ij hj =>?_) h
  have:(arrOf (SortSt.mk' general' (ks.toArray.zip vs.toArray) #[] 7 none)).size<2:=by
   show(ks.toArray.zip vs.toArray).size<2
   rw[Array.size_zip,Jr,Jr]
   rw[Jr] at h2
   omega
  have Kh:j<1:=Jv hj (Wm this)
  rw[show i=j by omega]
  exact Yn _
 ·rw[if_neg h2,if_neg h2]
  rw[Jr] at h2
  refine ae.el (zw k.run.aR k.keys) _ ?_
  rintro fs kt lf hf
  refine wpAny_bind (wpAny_mono (kat_kind (Q:=fun κ s' => κ=mL/\s'=sn) kt (by omega) (fun v hv =>?_) (by decide) ⟨rfl,rfl⟩) (fun κ s' hk =>?_) (fun _ _ z=>z))
  ·refine ae.el (hf v hv) _ ?_
   rintro z t rfl
   exact Looks.of_pure rfl
  obtain⟨rfl,rfl⟩:=hk
  have hL:iT X.prog X.w A E s' (ks.toArray.zip vs.toArray) (Ap Hn ts) mL:=B6 k.run.aR fun x hx=>by
   rw[ksk_zip] at hx
   refine ae.el (z2 x hx) _ ?_
   rintro t h1 h2 _
   exact⟨t,h1,h2⟩
  refine wpAny_bind (wpAny_mono (AO (a₀:=ks.toArray.zip vs.toArray) (key:=Ap Hn ts) (kd:=mL) (st:=SortSt.mk' mL (ks.toArray.zip vs.toArray) #[] 7 none) (Q:=fun _ st=>Tb (ks.toArray.zip vs.toArray) mL st/\Sg (Ap Hn ts) (arrOf st) 0 (ks.toArray.zip vs.toArray).size) hL ⟨Array.Perm.refl _,rfl,rfl⟩ rfl fun _ t g=>⟨t,g⟩) ?_ fun _ _ z=>z)
  rintro⟨⟨⟩,st⟩ s2 ⟨rfl,t,g⟩
  exact lG k rv hz t.perm t.failed (by rw[t.perm.size_eq];exact g) h
theorem lz {E:Value->Shared->Prop}{f:Value}{r:V->Hp->VK->Prop}{n:Nat}{s:Shared}{P:PySem.Fin->Shared->Prop}(I:Inv X pins σ H s0)(F:yP X f r)(hr:∀t∈ts,∀Hj,au H Hj->r (.str t) Hj fun v H'=>∃q,v = .ref q/\dM Hj q (.tup [.int t.length,.str t]) H')
  (r0:Run X H s0 H s) (d0:s0.heap.get? D=none) (hd:s.heap.get? D=some (seqObj "list" vs.toArray n)) (dn:H D=none) (rv:Vals (ts.map V.str) vs) (hz:ts.length<=sizeLine) (HS:∀b o,s0.heap.get? b=some o->b<s.heap.objs.size)
  (h:C2 X H s0 D ts fun sn=>P (.done (.ret .none)) sn):wpAny (model X.prog X.w) X.A.in1.in1 (ksk_tree D f false) P E s:=by
 have lv:vs.length=ts.length:=by have:=rv.length;rw[Ja] at this;exact this.symm
 obtain⟨e1,g1⟩:∃e1,(s.heap.update D (Obj.mapSeq fun _=>(#[]:Array Value))).get? D=some (seqObj "list" #[] e1):=⟨_,get?_update_seq hd fun _ =>#[]⟩
 have k1:((s.heap.update D (Obj.mapSeq fun _=>(#[]:Array Value))).push (seqObj "tuple" vs.toArray 0)).objs.size=s.heap.objs.size+1:=by rw[size_push',Heap.size_update]
 have lD:D<s.heap.objs.size:=Jk hd
 unfold ksk_tree
 refine wpAny_bind (listItems_at hd rfl ?_)
 refine wpAny_bind (listUpdate_at hd rfl ?_ (by rw[Jr];omega) (Us _))
 refine wpAny_bind (seqEpoch_at g1 rfl ?_)
 refine wpAny_bind (wpAny_newTuple ?_ (by show vs.length<=_;omega))
 refine wpAny_bind (wpAny_newList ?_ (Us _))
 refine wpAny_holding ?_
 show wpAny _ _ (ksk_rest D f false vs.toArray e1 (.ref ((s.heap.update D (Obj.mapSeq fun _=>(#[]:Array Value))).push (seqObj "tuple" vs.toArray 0)).objs.size)) P E { s with heap:=((s.heap.update D (Obj.mapSeq fun _=>(#[]:Array Value))).push (seqObj "tuple" vs.toArray 0)).push (seqObj "list" #[] 0) }
 rw[k1]
 have g3:(((s.heap.update D (Obj.mapSeq fun _=>(#[]:Array Value))).push (seqObj "tuple" vs.toArray 0)).push (seqObj "list" #[] 0)).get? (s.heap.objs.size+1)=some (seqObj "list" #[] 0):=by rw[<-k1];exact Jo _ rfl
 have ra:=r0.alter (h':=s.heap.update D (Obj.mapSeq fun _=>(#[]:Array Value))) d0 dn fun c u hc q=>by rw[Yz _ _ _ _ hc];exact q
 have rb:=ra.kept (h':=((s.heap.update D (Obj.mapSeq fun _=>(#[]:Array Value))).push (seqObj "tuple" vs.toArray 0)).push (seqObj "list" #[] 0)) fun b u q=>Jb _ (Jb _ q)
 have kk:Kj X H s0 D (s.heap.objs.size+1) e1 (ts.take 0) H ([]:List Value) { s with heap:=((s.heap.update D (Obj.mapSeq fun _=>(#[]:Array Value))).push (seqObj "tuple" vs.toArray 0)).push (seqObj "list" #[] 0) }:=
  ⟨rb,fun _ _ z=>z,dn,r0.aR.fresh (Yv _),d0,by
   cases q:s0.heap.get? (s.heap.objs.size+1) with
   | none=>rfl
   | some o=>exact absurd (HS _ _ q) (by show ¬s.heap.objs.size+1<s.heap.objs.size;omega),Yk (Wl lD),Jb _ (Jb _ g1),⟨0,g3⟩,.nil⟩
 unfold ksk_rest
 refine wpAny_bind (wpAny_rule ?_)
 first
  | rw[List.forIn_toArray]
  | (rw[<-Array.forIn_toList];simp -iota only [Yo])
  | rw[<-Array.forIn_toList]
 refine wpAny_bind (ksk_fold (I:=fun j s'=>∃Hj ks,Kj X H s0 D (s.heap.objs.size+1) e1 (ts.take j) Hj ks s') vs 0 _ ⟨_,_,kk⟩ (fun j x s' hx hI =>?_) fun s' hI =>?_)
 ·refine ae.el (hI) _ ?_
  rintro Hj ks k
  rw[Nat.zero_add] at k ⊢
  have hj:j<ts.length:=by have:=(Jy.mp hx).1;omega
  obtain⟨u,hu,ru⟩:=rv.get (i:=j) (x := .str ts[j]) (by rw[Jl,Jg hj];rfl)
  rw[hx] at hu;cases hu
  have lk:ks.length=j:=by have:=k.keys.length;rw[J6] at this;omega
  refine wpAny_bind (wpAny_attempt (wpAny_mono (F s' σ Hj _ _ _ (k.run.inv I) ru (hr ts[j] (Jn hj) Hj k.same)) (fun v s2 c =>?_) fun _ _ z=>z.elim))
  refine ae.el (k.more I (by omega) c) _ ?_
  rintro e nk Hi k'
  try dsimp only
  refine wpAny_bind (listUpdate_at nk rfl ?_ (by rw[Jr];omega) (Ju (Yy (Wj ..)) (by rw[Jr];omega)))
  refine wpAny_pure ⟨rfl,Hi,ks++[v],?_⟩
  rw[List.take_succ_eq_append_getElem hj]
  exact k'
 ·refine ae.el (hI) _ ?_
  rintro Hj ks k
  rw[Nat.zero_add,lv,J3] at k
  obtain⟨e,hk⟩:=k.kat
  try dsimp only
  refine wpAny_bind (listItems_at hk rfl ?_)
  exact uL k rv hz h
end
def nE (X:Cx)(id:String)(ks:List Str)(r:List V->List V->Hp->VK->Prop):Prop:=
 ∀ ⦃pins:List (Addr×Obj)⦄ (s:Shared) (σ:St) (H:Hp) (xs:List V) (us:List Value) (zs:List V) (ws:List Value) (Q:VK),Inv X pins σ H s->Vals xs us->Vals zs ws->r xs zs H Q ->
  wpAny (model X.prog X.w) X.A (call (.builtin id) us (ks.zip ws)) (EP X pins σ Q) X.xe s
section
variable {X:Cx}{x:Str}{p pos:Pos}{e:Expr}{es:List Expr}{yE:List Keyword}{t tk:TA}{id:String}{ks:List Str}{r:List V->List V->Hp->VK->Prop}
def Lg (r:List V->List V->Hp->VK->Prop)(t tk:TA):TE:=fun σ H Q=>t σ H fun vs H1=>tk σ H1 fun zs H2=>r vs zs H2 Q
theorem jt (hc:nE X id ks r)(hg:Gl X x)(hm:X.mg x=none)(hv:bootBuiltins x=some (.builtin id))(ha:PA X (e::es) t)(Rh:PK X yE tk)(hn:x ≠ "__name__":=by decide)(xM:(x==("__debug__" : Str))=false:=by decide)
  (he:backTo pos (starEach (e::es) X.env)=(false,eval e X.env)::backTo pos (starEach es X.env):=by rfl) (mG:(backTo pos (starEach (e::es) X.env)).any (·.1)=false:=by rfl)
  (eg:(backToKw pos (keywordEach yE X.env)).all (·.1.isSome)=true:=by rfl) (sT:(backToKw pos (keywordEach yE X.env)).any (·.1.isNone)=false:=by rfl) (Ed:(backToKw pos (keywordEach yE X.env)).filterMap (·.1)=ks:=by rfl) :
  PE X (.Call (.Name x p) (e::es) yE pos) (Lg r t tk):=by
 intro pins s σ H Q I h
 refine wpAny_Call_Name_kw (fW I hg hm hv ?_ hn xM)
 refine callWith_kw (aZ (ha s σ H _ I h) fun us s1 hz_=>ae.el hz_ _ fun vs H1 I1 r1 q1 =>?_) he mG eg sT
 refine aZ (Rh s1 σ H1 _ I1 q1) fun ws s2 hz_ =>?_
 refine ae.el hz_ _ ?_
 clear hz_
 rintro zs H2 I2 r2 q2
 rw[Ed]
 exact hc s2 σ H2 vs us zs ws Q I2 r1 r2 q2
end
section
variable {X:Cx}(K:Jc)
theorem xQ {f:Addr}{r:V->Hp->VK->Prop}(F:yP X (.ref f) r)(hK:X.K=K:=by rfl):nE X "sorted" [Str.ofString "key"] (fun xs zs H Q=>bO fun(p:Addr) (ts:List Str)=>xs=[.ref p]/\zs=[.ref f]/\aD K H p (ts.map V.str) /\
  (∀t∈ts,∀Hj,r (.str t) Hj fun v H'=>∃q,v = .ref q/\dM Hj q (.tup [.int t.length,.str t]) H') /\
  ∀(us:List Str) (q:Addr) (H':Hp),us.Perm ts->us.Pairwise (fun a b =>¬ff b a)->au H H'->H q=none->H' q=some (.lst (us.map V.str))->Q (.ref q) H'):=by
 subst hK
 intro pins s σ H xs us zs ws Q I r1 r2 h
 refine ae.el (h) _ ?_
 rintro p ts rfl rfl hq hr q
 refine ae.el (vals1 r1) _ ?_
 rintro u rfl ru
 refine ae.el (vals1 r2) _ ?_
 rintro z rfl rz
 cases ru;cases rz
 refine ae.el (I.list hq) _ ?_
 rintro az rv pl hz
 have ht:ts.length<=sizeLine:=by rw[Ja] at hz;exact hz
 have hi:az.length<=sizeLine:=by rw[<-rv.length];exact hz
 have k1:((s.heap.push (seqObj "list" #[] 0)).update s.heap.objs.size (Obj.mapSeq (· ++ az.toArray))).objs.size=s.heap.objs.size+1:=(Heap.size_update ..).trans (size_push' _ _)
 have k2:(((s.heap.push (seqObj "list" #[] 0)).update s.heap.objs.size (Obj.mapSeq (· ++ az.toArray))).push (seqObj "list" az.toArray 0)).get? _=some (seqObj "list" az.toArray 0):=Jo _ rfl
 have keep:∀b o,s.heap.get? b=some o->(((s.heap.push (seqObj "list" #[] 0)).update s.heap.objs.size (Obj.mapSeq (· ++ az.toArray))).push (seqObj "list" az.toArray 0)).get? b=some o:=fun b o e=>
  Jb _ (by rw[Yz _ _ _ _ (Jz (Jk e))];exact Jb _ e)
 show wpAny _ _ (call (.builtin "sorted") [.ref p] [(Str.ofString "key",.ref f)]) _ _ _
 refine call_function_entry_kw kind_sorted plain_sorted entry_sorted (ksk_s1 _ _) ?_
 unfold Builtin.«sorted»
 refine wpAny_bind (m:=checkCount "sorted" 1 1 _) (wpAny_pure (wpAny_bind (collect_list pl.isList (wpAny_bind (wpAny_newList ?_ hi)) hi)))
 rw[k1] at k2
 show wpAny _ _ _ _ _ { s with heap:=Heap.push _ (seqObj "list" az.toArray 0) }
 rw[k1]
 refine wpAny_bind (wpAny_holding (wpAny_call_entry_kw slot_list_sort ⟨_,k2,rfl⟩ entry_list_sort ?_ (ksk_l1 _ _)))
 rw[ksk_t1]
 have d0:s.heap.get? (s.heap.objs.size+1)=none:=Heap.get?_none_of_le (Yv _)
 refine lz (ts:=ts) I F (fun t ht Hj _=>hr t ht Hj) ((Run.start I).kept keep) d0 k2 (I.aR.fresh (Yv _)) rv ht (fun b o e=>Jk (keep b o e)) ?_
 intro vs out Hn sn e run same dn hD rv' up pw
 have lo:vs.length<=sizeLine:=by rw[up.length_eq];exact ht
 have new:=run.told (o := .lst (vs.map V.str)) d0 dn ⟨by rw[Ja];exact lo,out.toList,e,rv',by simpa [seqObj] using hD⟩
 refine⟨_,rfl,wpAny_pure ⟨_,rfl,.ref (s.heap.objs.size+1),_,new.inv I,rfl,q vs _ _ up pw (fun a o z =>?_) (I.aR.fresh (Yv _)) ar⟩⟩
 rw[aj (fun h=>by rw[h,I.aR.fresh (Yv _)] at z;cases z)]
 exact same a o z
end
theorem uW (a v:Value):argsOk "max" ⟨[a],[(Str.ofString "default",v)]⟩:=by unfold argsOk;kernel_rfl
def Mq (bt:Nat->Nat->Bool)(P:Nat->Value->Prop)(j:Nat)(xs:Array Value):Prop:=(j=0/\xs = #[])∨∃k v,j=k+1/\P (argBest bt k) v/\xs = #[v,v]
section
variable {prog:Program}{w:World}{A:Around}{R:Result->Shared->Prop}{I S:Addr}{fp wr:List Addr}{n:Nat}{P:Nat->Value->Prop}{St:Nat->Heap->Prop}{bt:Nat->Nat->Bool}{dv:Value}
theorem vj (W:Walks prog w A.in1 I fp wr n P St)(IW:CmpOf prog w A.in1 .Gt P bt)(out:S∉fp)(m:Nat):
  ∀(j:Nat) (s:Shared) (xs:Array Value) (c:Nat),m=n-j->j<=n->St j s.heap->Mq bt P j xs->s.heap.get? S=some { cls := .type "list",dict:=none,data := .seq xs c,slots := #[] } ->
   (∀v h' tk,(n=0/\v=dv)∨(0<n/\P (argBest bt (n-1)) v)->(∀b o,b∉wr->b≠S->s.heap.get? b=some o->h'.get? b=some o)->R (.ok (.ret v)) { s with heap:=h',toks:=tk }) ->
   codeAny (model prog w) A (.builtin "max.loop" ⟨[.ref I,.none,.ref S],[(Str.ofString "default",dv)]⟩) R s:=by
 have ow:S∉wr:=fun z=>out (W.sub _ z)
 have nm:(toString "max" ++ toString ".loop" : String) = "max.loop":=by decide
 have apart:∀{b:Addr},b∈fp->S≠b:=fun hb z=>out (by rw[z];exact hb)
 induction m with
 | zero=>
  intro j s xs c hm hj st hb hS hR
  obtain rfl:j=n:=by omega
  refine codeAny_builtin F.entry_max_loop ?_
  rw[Around.under_plainId F.plain_max_loop _]
  refine wpAny_bind (wpAny_seqItems hS rfl (wpAny_bind (wpAny_tryCatch (W.done s _ _ st fun h' tk hk =>?_))))
  rcases hb with ⟨e0,rfl⟩|⟨k,v,rfl,hv,rfl⟩
  ·exact wpAny_bind (wpAny_rule (wpAny_pure (hR dv h' tk (.inl ⟨e0,rfl⟩) fun b o h1 _ e=>hk b o h1 e)))
  ·exact wpAny_bind (wpAny_updateSeq (hk S _ ow hS) rfl (wpAny_bind (wpAny_letGo (wpAny_pure (hR v _ tk (.inr ⟨Nat.succ_pos _,hv⟩) fun b o h1 h2 e=>(Uq _ _ (Ne.symm h2)).trans (hk b o h1 e))))))
 | succ m ih=>
  intro j s xs c hm hj st hb hS hR
  have bN:j<n:=by omega
  refine codeAny_builtin F.entry_max_loop ?_
  rw[Around.under_plainId F.plain_max_loop _]
  refine wpAny_bind (wpAny_seqItems hS rfl (wpAny_bind (wpAny_tryCatch (W.item j s _ _ bN st fun u h' tk hu aE hk =>?_))))
  have Iu:=hk S _ ow hS
  have next:∀{y:Value},P (argBest bt j) y->codeAny (model prog w) A (.builtin "max.loop" ⟨[.ref I,.none,.ref S],[(Str.ofString "default",dv)]⟩) R { s with heap:=h'.update S (Obj.mapSeq fun _ =>#[y,y]),toks:=tk }:=fun{y} hy=>
   ih (j+1) _ #[y,y] _ (by omega) bN (W.frame _ _ _ aE fun b hb o e=>(Uq _ _ (apart hb)).trans e) (.inr ⟨j,y,rfl,hy,rfl⟩) (Ur _ Iu rfl) fun v h'' tk'' hv hk''=>hR v h'' tk'' hv fun b o h1 h2 e=>hk'' b o h1 h2 ((Uq _ _ (Ne.symm h2)).trans (hk b o h1 e))
  rcases hb with ⟨rfl,rfl⟩|⟨k,v,rfl,hv,rfl⟩
  ·change wpAny _ A.in1 (updateSeq S (fun _ =>#[u,u]) >>= _) _ _ _
   refine wpAny_bind (wpAny_updateSeq Iu rfl ?_)
   rw[nm]
   exact wpAny_pure ⟨plainId_quiet F.plain_max_loop _,next hu⟩
  ·change wpAny _ A.in1 (tryCatch (holding [u,u] (richCompare .Gt u v >>= _)) _ >>= _) _ _ _
   refine wpAny_bind (wpAny_tryCatch (wpAny_holding (wpAny_bind (IW (k+1) (argBest bt k) u v _ _ _ hu hv (wpAny_bind (wpAny_holding (wpAny_truthy_bool (wpAny_bind (wpAny_letGo (wpAny_pure ?_))))))))))
   cases hc:bt (k+1) (argBest bt k) with
   | true=>
    refine wpAny_bind (wpAny_updateSeq Iu rfl (wpAny_bind (wpAny_letGo ?_)))
    rw[nm]
    exact wpAny_pure ⟨plainId_quiet F.plain_max_loop _,next (by unfold argBest;rw[if_pos hc];exact hu)⟩
   | false=>
    refine wpAny_bind (wpAny_letGo ?_)
    rw[nm]
    exact wpAny_pure ⟨plainId_quiet F.plain_max_loop _,ih (k+1+1) _ #[v,v] c (by omega) bN aE (.inr ⟨k+1,v,rfl,by unfold argBest;rw[if_neg (by rw[hc];decide)];exact hv,rfl⟩) Iu fun y h'' tk'' hy hk''=>hR y h'' tk'' hy fun b o h1 h2 e=>hk'' b o h1 h2 (hk b o h1 e)⟩
end
variable {X:Cx}
theorem maxD (K:Jc)(hc:X.calm=true)(hK:X.K=K:=by rfl):nE X "max" [Str.ofString "default"] (fun xs zs H Q=>fq fun(p:Addr) (ns:List Int) (d:Int)=>xs=[.ref p]/\zs=[.int d]/\aD K H p (ns.map V.int)/\∀M,(ns=[]/\M=d)∨(M∈ns/\∀a∈ns,a<=M)->Q (.int M) H):=by
 subst hK
 intro pins s σ H xs us zs ws Q I r1 r2 h
 refine ae.el (h) _ ?_
 rintro p ns d rfl rfl hq q
 refine ae.el (vals1 r1) _ ?_
 rintro u rfl ru
 refine ae.el (vals1 r2) _ ?_
 rintro z rfl rz
 cases ru
 have Hm:(toString "max" ++ toString ".loop" : String) = "max.loop":=by decide
 show wpAny _ _ (call (.builtin "max") [.ref p] [(Str.ofString "default",z)]) _ _ _
 refine kmk_tree PySem.F.kind_max PySem.F.plain_max PySem.F.entry_max (uW _ _) ?_
 change wpAny _ X.A.in1 (Bind.bind (Builtin.Builtins.bindParams "max" ["key", "default"] 0 ⟨[],[(Str.ofString "default",z)]⟩) _) _ _ s
 refine wpAny_bind (wpAny_of_eq (show Builtin.Builtins.bindParams "max" ["key", "default"] 0 ⟨[],[(Str.ofString "default",z)]⟩=pure [none,some z] from rfl) (wpAny_bind (wpAny_pure ?_)))
 refine wpAny_bind (jL (A:=X.A.in1) (I.ok.hd hc) I hq fun az it s2 rv hz W st bN hI =>?_)
 have hl:az.toArray.size=ns.length:=by have:=rv.length;simp at this ⊢;omega
 refine wpAny_bind (wpAny_newObj_type ?_)
 have Qv:s2.heap.objs.size∉[it,p]:=fun hm=>Ya _ (bN _ hm)
 rw[Hm]
 refine wpAny_pure ⟨plainId_quiet PySem.F.plain_max_loop _,vj (bt:=fun i j=>decide (ns.getD i 0>ns.getD j 0)) W ?_ Qv _ 0 _ _ _ rfl (Us _) (W.frame _ _ _ st fun b _ o e=>Jb _ e) (.inl ⟨rfl,rfl⟩) (Jo _ rfl) fun v h' tk hP hk =>?_⟩
 ·refine CmpOf.ints_gt (fun i=>ns.getD i 0) fun{i v} e =>?_
  obtain⟨n,t,h1,rfl⟩:=int_at rv e
  exact⟨t,by simp[List.getD,h1]⟩
 ·have I2:=hI h' tk fun b o hbw e=>hk b o hbw (Jz (Jk e)) (Jb _ e)
  rcases hP with ⟨h0,rfl⟩|⟨h0,e⟩
  ·exact⟨.int d,H,I2,rz,q d (.inl ⟨J7 (by omega),rfl⟩)⟩
  ·obtain⟨n,t,h1,rfl⟩:=int_at rv e
   obtain⟨b1,b2⟩:=argBest_gt (fun i=>ns.getD i 0) (az.toArray.size-1)
   refine⟨.int n,H,I2,⟨_,rfl⟩,q n (.inr ⟨Y4 h1,fun a ha =>?_⟩)⟩
   obtain⟨j,hj⟩:=List.getElem?_of_mem ha
   have Ke:j<ns.length:=(Jy.mp hj).1
   have z:=b2 j (by omega)
   have e1:ns.getD j 0=a:=by simp[List.getD,hj]
   have e2:ns.getD (argBest (fun i j=>decide (ns.getD i 0>ns.getD j 0)) (az.toArray.size-1)) 0=n:=by rw[Yx,h1];rfl
   rw[<-e1,<-e2]
   exact z
section
variable {X:Cx}
theorem kK:∀{xs:List V} {us:List Value} (j:Nat),Vals xs us->Vals (xs.eraseIdx j) (us.eraseIdx j)
 | _,_,_,.nil=>by simp;exact .nil
 | _,_,0,.cons _ t=>by simpa using t
 | _,_,j+1,.cons h t=>by simpa using .cons h (kK j t)
end
open PySem.Calls Builtin Builtin.ObjectAttr
section
variable {prog:Program}{w:World}{A:Around}{E:Value->Shared->Prop}{h0:Heap}{g0:Array GenState}{d0:Drawn}{t0:Nat}{RE:OsState}{nm qn:Str}{C N fi:Addr}{bs up tail:List Value}{QM:Bool}{sn:List Str}{sub:List Value}{ab:Bool}
 {col:Option Bool} {dd:Option Addr} {k0 k1 k2 k3 k5:Option Value} {B newId L7:String}
end
section
variable {X:Cx}{pins:List (Addr×Obj)}{σ:St}{H:Hp}{s:Shared}{a:Addr}{u v:HO}
theorem Inv.yQ (I:Inv X pins σ H s)(hu:H a=some u)(nt:∀xs,u ≠ .tup xs)(nf:∀o w,X.H₀ a≠some (.frz o w))(nb:∀ps,u ≠ .tbl ps)(no:∀y,u ≠ .own y)(hv:∀H',(∀b,H b=some (.own a)->H' b=some (.own a))->(∀b xs,H b=some (.tup xs)->H' b=some (.tup xs))->bq X.prog X.w H' s.heap a v):
  Inv X pins σ (upd H a v) s:=by
 have hZ:∀{b:Addr},H b=none->b≠a:=fun e z=>by rw[z,hu] at e;cases e
 have own:∀b y,H b=some (.own y)->upd H a v b=some (.own y):=fun b y e=>by
  rw[aj (fun z=>by rw[z,hu] at e;exact no y (Option.some.inj e))];exact e
 have tup:∀b xs,H b=some (.tup xs)->upd H a v b=some (.tup xs):=fun b xs e=>by
  rw[aj (fun z=>by rw[z,hu] at e;exact nt xs (Option.some.inj e))];exact e
 refine⟨I.ok,I.os,I.bare,⟨I.base.keep,I.base.slot,fun b o q n hx =>?_,I.base.there,fun b xs q=>tup b xs (I.base.gC b xs q),fun b o w q =>?_,fun b ps q =>?_⟩,I.loc,I.cell,?_,fun x c e =>?_,fun p hp =>?_,fun b o e =>?_,I.len⟩
 ·have:=I.base.free b o q n hx
  rw[aj (hZ this)];exact this
 ·have:=I.base.fB b o w q
  rw[aj (fun z=>by rw[z] at q;exact nf _ _ q)];exact this
 ·obtain⟨more,e⟩:=I.base.gM b ps q
  exact⟨more,by rw[aj (fun z=>by rw[z,hu] at e;exact nb _ (Option.some.inj e))];exact e⟩
 ·rw[aj (hZ I.free)];exact I.free
 ·rw[aj (hZ (I.freeC x c e))];exact I.freeC x c e
 ·obtain⟨p1,p2,p3⟩:=I.pin p hp
  exact⟨p1,by rw[aj (hZ p2)];exact p2,p3⟩
 ·by_cases z:b=a
  ·subst z
   rw[ar] at e
   cases e
   exact hv _ (fun b e=>own b _ e) tup
  ·rw[aj z] at e
   exact(I.aR b o e).kM (fun _ _ _ q=>q) (fun b e=>own b _ e) tup
theorem Inv.freeze {kvs:List (Key×V)}(I:Inv X pins σ H s)(h:H a=some (.dK kvs)):∃ob ep vs,s.heap.get? a=some ob/\KV kvs vs/\(a==sysModules)=false/\(∀h':Heap,h'.get? a=some ob->h'.DictAt (aU X.prog X.w) a vs ep)/\Inv X pins σ (upd H a (.frz ob (.dK kvs))) s:=by
 obtain⟨z,ns,vs,kv,o,es,ep,e,r⟩:=I.aR a _ h
 refine⟨o,ep,vs,e,kv,ns,fun h' e'=>⟨o,es,e',r⟩,I.yQ h (fun _ z=>nomatch z) (fun o w q =>?_) (fun _ z=>nomatch z) (fun _ z=>nomatch z) fun H' _ _=>⟨e,z,ns,vs,kv,o,es,ep,e,r⟩⟩
 have:=I.base.fB a o w q
 rw[h] at this;cases this
theorem Inv.LY {ob:Obj}{kvs:List (Key×V)}(I:Inv X pins σ H s)(h:H a=some (.frz ob (.dK kvs)))(nf:∀o w,X.H₀ a≠some (.frz o w)):Inv X pins σ (upd H a (.dK kvs)) s:=by
 obtain⟨e,z,ns,vs,kv,o,es,ep,e',r⟩:=I.aR a _ h
 exact I.yQ h (fun _ z=>nomatch z) nf (fun _ z=>nomatch z) (fun _ z=>nomatch z) fun H' _ _=>⟨z,ns,vs,kv,o,es,ep,e',r⟩
end
noncomputable def Nv (ob:Obj)(a:Addr)(kvs:List (Key×V)):It:=⟨fun i H=>H a=some (.frz ob (.dK kvs))/\i<kvs.length,fun i H x H'=>H'=H/\∃q,kvs[i]? = some q/\x=kV q.1,fun i H=>H a=some (.frz ob (.dK kvs))/\kvs.length<=i⟩
theorem C1 {kvs:List (Key×V)}{vs:List (Key×Value)}(h:KV kvs vs):∀{i:Nat} {q:Key×V},kvs[i]? = some q->∃z,vs[i]? = some (q.1,z):=by
 induction h with
 | nil=>intro i q e;exact nomatch(List.getElem?_nil.symm.trans e)
 | cons h t ih=>
  intro i q e
  cases i with
  | zero=>cases e;exact⟨_,by rw[h.1];rfl⟩
  | succ i=>exact ih (i:=i) e
theorem rP {P:Program}{w:World}{K:Jc}{tg:Expr}{a it:Addr}{ob:Obj}{ep:Nat}{kvs:List (Key×V)}{vs:List (Key×Value)}(kv:KV kvs vs)(D:∀h':Heap,h'.get? a=some ob->h'.DictAt (aU P w) a vs ep):
  Turn P w K tg (Nv ob a kvs) [it] it (fun i h=>h.IsKeyIter it a i vs.length ep) where
 mem:=by simp
 obj:=fun i h st b hb=>by
  have e:b=it:=by simpa using hb
  subst e
  obtain⟨o,e,c,d⟩:=st
  exact⟨o,e,fun v z=>by rw[d] at z;cases z⟩
 keep:=fun i h h' st k=>by
  obtain⟨o,e,c,d⟩:=st
  exact⟨o,k it (by simp) o e,c,d⟩
 item:=by
  intro X hP hw hK hc i pins s σ H E I hf st hg
  subst hP hw hK
  obtain⟨ha,hi⟩:=hg
  obtain⟨f0,f1,f2,f3,f4,f5⟩:=hf it (by simp)
  obtain⟨z,hz⟩:=C1 kv (Jg hi)
  refine wpAny_pyNext_dict_item (knd:=aU X.prog X.w) st (D _ (I.aR a _ ha).1) hz fun key h' hk aE sb =>?_
  have I1:Inv X pins σ H { s with heap:=h' }:=I.turned (t':=s.toks) (fun b o hb e=>(sb.2 b hb).trans e) f0 f1 f3 f4 f5
  obtain⟨o,e,c,d⟩:=id aE
  have rk:RelV (kV kvs[i].1) key:=by
   rcases bC hk with ⟨n,t,e1,e2⟩|⟨x,t,e1,e2⟩
   ·rw[e1,e2];exact⟨t,rfl⟩
   ·rw[e1,e2];exact⟨t,rfl⟩
  exact⟨_,rfl,tF (s:={ s with heap:=h' }) e c d (by decide) ⟨_,H,I1,rk,⟨rfl,_,Jg hi,rfl⟩,aE,fun b hb=>(hf b hb).1⟩⟩
 done:=by
  intro X hP hw hK hc i pins s σ H E I hf st hg
  subst hP hw hK
  obtain⟨ha,hi⟩:=hg
  obtain⟨f0,f1,f2,f3,f4,f5⟩:=hf it (by simp)
  exact wpAny_pyNext_dict_end (knd:=aU X.prog X.w) (I.ok.hd hc) st (D _ (I.aR a _ ha).1) (List.getElem?_eq_none (by rw[<-kv.length];exact hi)) fun h' eb=>⟨rfl,I.turned (t':=s.toks) (fun b o hb e=>eb b o hb e) f0 f1 f3 f4 f5⟩
 self:=fun A i s Q E st h=>wpAny_pyIter_keyiter st h
def Cs (tl:TE):TI:=fun σ H R=>tl σ H fun x H1=>bO fun(a:Addr) (kvs:List (Key×V))=>x = .ref a/\H1 a=some (.dK kvs)/\∀ob,R (Nv ob a kvs) (upd H1 a (.frz ob (.dK kvs)))
theorem qe {X:Cx}{tg l:Expr}{tl:TE}(hl:PE X l tl):PI X tg l (Cs tl):=by
 intro pins s σ H R I h
 refine aZ (hl s σ H _ I h) fun v s1 ⟨x,H1,I1,r1,a,kvs,e,ha,q⟩=>?_
 subst e
 cases r1
 refine ae.el (I1.freeze ha) _ ?_
 rintro ob ep vs eo kv ns D I2
 refine wpAny_pyIter_dict (knd:=aU X.prog X.w) ns (D _ eo) ?_
 have hk:∀b o,s1.heap.get? b=some o->(s1.heap.push { cls := .type "dict_keyiterator",data := .fields #[.ref a,.int 0 0,.int vs.length 0,.int ep 0] }).get? b=some o:=fun b o e=>Jb _ e
 have I3:=I2.kept (t':=s1.toks) hk
 refine⟨_,_,_,_,_,rfl,I3,rP kv D,⟨_,Jo _ rfl,rfl,rfl⟩,fun c hc =>?_,q ob⟩
 have wk:s1.heap.objs.size<=c:=by
  simp at hc
  rw[hc];exact Jf _
 exact I2.jd wk (I2.aR.fresh wk)
def G1 (te:TE):TE:=fun σ H Q=>∃a,(∃kvs,H a=some (.dK kvs))/\te σ H fun v H'=>∃ob kvs,H' a=some (.frz ob (.dK kvs))/\Q v (upd H' a (.dK kvs))
theorem Am {X:Cx}{e:Expr}{te:TE}(h:PE X e te):PE X e (G1 te):=by
 intro pins s σ H Q I hq
 obtain⟨a,⟨kvs,ha⟩,q⟩:=hq
 have nf:∀o w,X.H₀ a≠some (.frz o w):=fun o w z=>by
  have:=I.base.fB a o w z
  rw[ha] at this;cases this
 refine aZ (h s σ H _ I q) fun u s1 ⟨v,H1,I1,r1,ob,bH,h1,q1⟩=>⟨v,_,I1.LY h1 nf,r1,q1⟩
section
variable {prog:Program}{w:World}{A:Around}{E:Value->Shared->Prop}{s:Shared}{d it:Addr}{o od:Obj}{es:Array DictEntry}{i ep:Nat}
theorem rY {Q:Value->Shared->Prop}(nm:(d==sysModules)=false)(ty:s.TypeIs (.ref d) "dict")(od:s.heap.get? d=some o)(da:o.data = .dict es ep)
  (k:Q (.ref s.heap.objs.size) { s with heap:=s.heap.push { cls := .type "dict_keyiterator",data := .fields #[.ref d,.int 0 0,.int es.size 0,.int ep 0] } }):wpAny (model prog w) A (pyIter (.ref d)) Q E s:=by
 refine wpAny_pyIter_slot ty F.slot_dict_iter (wpAny_call_entry F.slot_dict_iter ty F.entry_dict_iter (wpAny_bind (wpAny_bind (wpAny_notOrdered_dict ty (wpAny_pure (wpAny_bind ?_))))) (F.args_dict_iter_1 _))
 change wpAny _ _ (pure d) _ _ _
 refine wpAny_pure (wpAny_bind ?_)
 unfold Builtin.Dict.showsAll
 rw[nm]
 exact wpAny_pure (wpAny_bind (wpAny_dictEntries od da (wpAny_bind (wpAny_dictEpoch od da (wpAny_bind (wpAny_newObj_type (wpAny_pure ⟨_,rfl,_,_,⟨_,Jo _ rfl,rfl⟩,F.slot_dict_keyiterator_next.lookup,by simpa [rawInt] using k⟩)))))))
theorem kR {Q:Option Value->Shared->Prop}(hit:s.heap.IsKeyIter it d i es.size ep)(Oi:s.heap.get? d=some od)(N5:od.data = .dict es ep)(calm:es.size<=i->A.handled=none)
  (more:∀(bN:i<es.size) (h':Heap),h'.IsKeyIter it d (i+1) es.size ep->U6 it s.heap h'->Q (some es[i].key) { s with heap:=h' })
  (done:es.size<=i->∀h':Heap,Heap.ExtBut it s.heap h'->Q none { s with heap:=h' }):wpAny (model prog w) A (pyNext (.ref it)) Q E s:=by
 have ty:=hit.typeIs
 obtain⟨o,ho,hc,hd⟩:=id hit
 unfold pyNext
 refine wpAny_bind (wpAny_attempt (wpAny_callSpecial?_slot (name:=Str.ofString "__next__") ty F.slot_dict_keyiterator_next (wpAny_call_entry F.slot_dict_keyiterator_next ty F.entry_dict_keyiterator_next (wpAny_bind (wpAny_pure (wpAny_bind (wpAny_bind ?_)))) (F.args_dict_keyiterator_next_1 _))))
 first|refine wpAny_bind (wpAny_typeNameOfWhole_keyiter ty (wpAny_pure (wpAny_bind (wpAny_fieldsOf ho hd ?_))))|refine wpAny_bind (wpAny_typeNameOf_keyiter ty (wpAny_pure (wpAny_bind (wpAny_fieldsOf ho hd ?_))))
 simp -iota only [show Builtin.Dict_items.ownsTuple "dict_keyiterator" = false by decide,Ua,if_false]
 change wpAny _ _ (if (Value.ref d==Value.none)=true then _ else _) _ _ _
 rw[if_neg (show(Value.ref d==Value.none)≠true from Jm)]
 refine wpAny_bind (wpAny_pure (wpAny_bind (wpAny_dictEntries Oi N5 ?_)))
 rw[if_neg (by simp)]
 refine wpAny_bind (wpAny_pure (wpAny_bind (wpAny_dictEpoch Oi N5 ?_)))
 rw[if_neg (by simp)]
 refine wpAny_pure ?_
 rcases Nat.lt_or_ge i es.size with bN|hge
 ·dsimp only
  simp -iota only [show ¬(i:Int)<0 by omega,if_false,Uz,Ub bN]
  dsimp only
  refine wpAny_bind ?_
  first|refine wpAny_bind (wpAny_typeNameOfWhole_keyiter ty (wpAny_pure (wpAny_bind (wpAny_isOneOf_keyiter ty ?_))))|refine wpAny_bind (wpAny_typeNameOf_keyiter ty (wpAny_pure (wpAny_bind (wpAny_isOneOf_keyiter ty ?_))))
  change wpAny _ _ (setField (.ref it) 1 (rawInt ((i:Int)+1)) >>= _) _ _ _
  refine wpAny_bind (wpAny_setField ho hd (by simp) (wpAny_bind (wpAny_holding ?_)))
  have moved:(s.heap.update it (Obj.mapFields (·.setIfInBounds 1 (rawInt ((i:Int)+1))))).IsKeyIter it d (i+1) es.size ep:=by
   refine⟨_,Ur _ ho (Obj.isFreed_of_fields (Obj.data_mapFields hd _)),by rw[Obj.cls_mapFields];exact hc,?_⟩
   rw[Obj.data_mapFields hd]
   simp[rawInt]
  have Pw:Shared.TypeIs { s with heap:=s.heap.update it (Obj.mapFields (·.setIfInBounds 1 (rawInt ((i:Int)+1)))) } (.ref it) "dict_keyiterator":=moved.typeIs
  refine wpAny_bind (wpAny_isOneOf_keyiter Pw ?_)
  change wpAny _ _ (pure es[i].key) _ _ _
  exact wpAny_pure (wpAny_pure ⟨_,rfl,wpAny_pure (more bN _ moved (U6.update ..))⟩)
 ·dsimp only
  simp -iota only [show ¬(i:Int)<0 by omega,if_false,Uz,Yd hge]
  dsimp only
  refine wpAny_bind ?_
  first|refine wpAny_bind (wpAny_typeNameOfWhole_keyiter ty (wpAny_pure ?_))|refine wpAny_bind (wpAny_typeNameOf_keyiter ty (wpAny_pure ?_))
  change wpAny _ _ (setField (.ref it) 0 .none >>= _) _ _ _
  refine wpAny_bind (wpAny_setField ho hd (by simp) ?_)
  change wpAny _ _ (newExc (.type "StopIteration") [] >>= _) _ _ _
  refine wpAny_bind ?_
  simp only[newExc,newTuple]
  refine wpAny_bind (wpAny_newObj_type (wpAny_bind (m:=firstArgMember _ _) (wpAny_of_eq (a:=Value.none) (by first|rfl|(simp only[firstArgMember];rfl)) (wpAny_newObj_type ?_ (by size_fits)))) (by size_fits))
  simp -iota only [raiseNew]
  refine wpAny_bind (wpAny_handled ?_)
  rw[show A.in1.handled=none from calm hge]
  refine wpAny_bind (wpAny_pure (wpAny_throw ?_))
  exact wpAny_bind (wpAny_isInstance (T := "StopIteration") (b:=true) ⟨_,Jo _ rfl,rfl⟩ isSubtype_stop (wpAny_pure (done hge _ (((U6.update ..).extBut.push _).push _))))
end
section
variable {X:Cx}{pins:List (Addr×Obj)}{σ:St}{H:Hp}{s:Shared}{a:Addr}{u v:HO}
theorem Inv.AQ {kvs:List (List Key×V)}(I:Inv X pins σ H s)(h:H a=some (.dT kvs)):fq fun ob es ep=>s.heap.get? a=some ob/\ob.data = .dict es ep/\es.size=kvs.length/\(a==sysModules)=false/\s.TypeIs (.ref a) "dict" /\ Inv X pins σ (upd H a (.frz ob (.dT kvs))) s:=by
 obtain⟨z,ns,xs,kt,o,es,ep,e,ex,hd,he,nd⟩:=(show bq X.prog X.w H s.heap a (.dT kvs) from I.aR a _ h)
 obtain⟨_,_,_,_,dd⟩:=yb I.aR h
 refine⟨o,es,ep,e,hd,?_,ns,dd.typeIs,I.yQ h (fun _ z=>nomatch z) (fun o w q =>?_) (fun _ z=>nomatch z) (fun _ z=>nomatch z) fun H' _ ht=>⟨e,z,ns,xs,KT.keeps kt ht,o,es,ep,e,ex,hd,he,nd⟩⟩
 ·have:=congrArg J9 he
  rw[Ja,<-Paired.length kt] at this
  exact this
 ·have:=I.base.fB a o w q
  rw[h] at this;cases this
end
theorem kt_at {H:Hp}{kvs:List (List Key×V)}{xs:List (List Key×Addr×Value)}(r:KT H kvs xs):∀{i:Nat} {q:List Key×V},kvs[i]? = some q->∃b v,xs[i]? = some (q.1,b,v)/\H b=some (.tup (q.1.map kV)):=by
 induction r with
 | nil=>intro i q e;simp at e
 | @cons p x ps xs h t ih=>
  intro i q e
  cases i with
  | zero=>
   cases e
   obtain⟨k,b,v⟩:=x
   obtain⟨rfl,h2,_⟩:=h
   exact⟨b,v,rfl,h2⟩
  | succ i=>exact ih e
noncomputable def NF (ob:Obj)(a:Addr)(kvs:List (List Key×V)):It:=⟨fun i H=>H a=some (.frz ob (.dT kvs))/\i<kvs.length,fun i H x H'=>H'=H/\bO fun(q:List Key×V) (b:Addr)=>kvs[i]? = some q/\x = .ref b/\H b=some (.tup (q.1.map kV)),fun i H=>H a=some (.frz ob (.dT kvs))/\kvs.length<=i⟩
theorem rW {P:Program}{w:World}{K:Jc}{tg:Expr}{a it:Addr}{ob:Obj}{es:Array DictEntry}{ep:Nat}{kvs:List (List Key×V)}(hd:ob.data = .dict es ep)(hz:es.size=kvs.length):
  Turn P w K tg (NF ob a kvs) [it] it (fun i h=>h.IsKeyIter it a i es.size ep) where
 mem:=by simp
 obj:=fun i h st b hb=>by
  have e:b=it:=by simpa using hb
  subst e
  obtain⟨o,e,c,d⟩:=st
  exact⟨o,e,fun v z=>by rw[d] at z;cases z⟩
 keep:=fun i h h' st k=>by
  obtain⟨o,e,c,d⟩:=st
  exact⟨o,k it (by simp) o e,c,d⟩
 item:=by
  intro X hP hw hK hc i pins s σ H E I hf st hg
  subst hP hw hK
  obtain⟨ha,hi⟩:=hg
  obtain⟨f0,f1,f2,f3,f4,f5⟩:=hf it (by simp)
  obtain⟨e,z,ns,xs,kt,o,es',ep',e',ex,hd',he,nd⟩:=(show bq X.prog X.w H s.heap a (.frz ob (.dT kvs)) from I.aR a _ ha)
  rw[e] at e';cases e'
  rw[hd] at hd';cases hd'
  have bN:i<es.size:=by omega
  obtain⟨b,v,hx,hb⟩:=kt_at kt (Jg hi)
  have xv:es[i].key = .ref b:=by
   have e1:es.toList[i]? = some es[i]:=by rw[Uh,Ub bN]
   rw[he,Jl,hx] at e1
   have e1:=Option.some.inj e1
   rw[<-e1];rfl
  refine kR st e hd (fun z=>absurd bN (Nat.not_lt.mpr z)) (fun _ h' aE sb =>?_) fun z=>absurd bN (Nat.not_lt.mpr z)
  have I1:Inv X pins σ H { s with heap:=h' }:=I.turned (t':=s.toks) (fun b o hb e=>(sb.2 b hb).trans e) f0 f1 f3 f4 f5
  obtain⟨o,e,c,d⟩:=id aE
  refine⟨_,rfl,tF (s:={ s with heap:=h' }) e c d (by decide) ⟨.ref b,H,I1,xv,⟨rfl,_,b,Jg hi,rfl,hb⟩,aE,fun b hb=>(hf b hb).1⟩⟩
 done:=by
  intro X hP hw hK hc i pins s σ H E I hf st hg
  subst hP hw hK
  obtain⟨ha,hi⟩:=hg
  obtain⟨f0,f1,f2,f3,f4,f5⟩:=hf it (by simp)
  refine kR st (show bq X.prog X.w H s.heap a (.frz ob (.dT kvs)) from I.aR a _ ha).1 hd (fun _=>I.ok.hd hc) (fun z=>by omega) fun _ h' eb=>⟨rfl,I.turned (t':=s.toks) (fun b o hb e=>eb b o hb e) f0 f1 f3 f4 f5⟩
 self:=fun A i s Q E st h=>wpAny_pyIter_keyiter st h
def D0 (tl:TE):TI:=fun σ H R=>tl σ H fun x H1=>bO fun(a:Addr) (kvs:List (List Key×V))=>x = .ref a/\H1 a=some (.dT kvs)/\∀ob,R (NF ob a kvs) (upd H1 a (.frz ob (.dT kvs)))
theorem yH {X:Cx}{tg l:Expr}{tl:TE}(hl:PE X l tl):PI X tg l (D0 tl):=by
 intro pins s σ H R I h
 refine aZ (hl s σ H _ I h) fun v s1 ⟨x,H1,I1,r1,a,kvs,e,ha,q⟩=>?_
 subst e
 cases r1
 refine ae.el (I1.AQ ha) _ ?_
 rintro ob es ep eo hd hz ns hT I2
 refine rY ns hT eo hd ?_
 have hk:∀b o,s1.heap.get? b=some o->(s1.heap.push { cls := .type "dict_keyiterator",data := .fields #[.ref a,.int 0 0,.int es.size 0,.int ep 0] }).get? b=some o:=fun b o e=>Jb _ e
 have I3:=I2.kept (t':=s1.toks) hk
 refine⟨_,_,_,_,_,rfl,I3,rW hd hz,⟨_,Jo _ rfl,rfl,rfl⟩,fun c hc =>?_,q ob⟩
 have wk:s1.heap.objs.size<=c:=by
  simp at hc
  rw[hc];exact Jf _
 exact I2.jd wk (I2.aR.fresh wk)
def G5 (p:Addr)(Q:VK):List (V×V)->Hp->Prop
 | [(y,v)],H2=>H2 p=some (.dT [])/\bO fun(k:List Key) (b:Addr)=>y = .ref b/\H2 b=some (.tup (k.map kV))/\∀H3,jT H2 p (.dT [(k,v)]) H3->Q (.ref p) H3
 | _,_=>False
def Cc (tk tv:TE):TE:=fun σ H Q=>∀p H0,dM H p (.dT []) H0->tk σ H0 fun y H1=>tv σ H1 fun v H2=>H2 p=some (.dT [])/\bO fun(k:List Key) (b:Addr)=>y = .ref b/\H2 b=some (.tup (k.map kV))/\∀H3,jT H2 p (.dT [(k,v)]) H3->Q (.ref p) H3
theorem o7 {X:Cx}{pos:Pos}{k v:Expr}{tk tv:TE}(hu:X.A.units+1<cLine)(hk:PE X k tk)(hv:PE X v tv):PE X (.Dict [some k] [v] pos) (Cc tk tv):=by
 intro pins s σ H Q I q
 have hn:=I.aR.fresh (Jf s.heap.objs.size)
 have I1:=I.laid (a:=s.heap.objs.size) (o := .dT []) (h':=s.heap.push { cls := .type "dict",data := .dict #[] }) (t':=s.toks) (fun _ _ q=>Jb _ q) (Jf _) (xK s.heap I.big)
 have hp:=lL (X:=X) (pos:=pos) hk hv tq
 refine wpAny_Dict_any rfl rfl (by simp) (by show 1<=15;decide) (aZ (hp _ σ _ (G5 s.heap.objs.size Q) I1 (q _ _ ⟨hn,rfl⟩)) fun ws s2 hz_ =>?_)
 refine ae.el hz_ _ ?_
 clear hz_
 intro ps H2 I2 rel hP
 cases ps with
 | nil=>exact False.elim hP
 | cons yv ps=>
 cases ps with
 | cons _ _=>exact False.elim hP
 | nil=>
  obtain⟨y,v⟩:=yv
  obtain⟨e,k,b,rfl,eb,q2⟩:=hP
  cases rel with
  | @cons p r ps qs h t=>
   cases t
   obtain⟨ku,vu⟩:=r
   obtain⟨r1,r2⟩:=h
   cases (show ku=Value.ref b from r1)
   obtain⟨z,hd,xs,kt,dd⟩:=yb I2.aR e
   cases kt
   unfold storeAll
   rw[Wi]
   refine wpAny_bind (wpAny_bind (wpAny_dictSet_heap (knd:=tupleKind (aU X.prog X.w)) (show X.A.units<cLine by omega) (jm I2.aR eb) dd fun h' dd' hs=>wpAny_pure ?_))
   refine wpAny_pure ⟨.ref s.heap.objs.size,_,?_,rfl,q2 _ ⟨rfl⟩⟩
   obtain⟨q,es,ep,hq,h2,h3,h4,_,h5⟩:=dd'
   refine ic I2 (by rw[e];exact True.intro) hs ⟨q,hq⟩ ⟨by show 1<=sizeLine;decide,hd,_,(KT.put (kvs:=[]) .nil k eb r2).keeps fun c ys ec =>?_,q,es,ep,hq,h2,h3,h4,h5⟩
   rw[aj (xN ec e (fun z=>nomatch z))]
   exact ec
def DN (H:Hp)(a:Addr)(n:Nat):Prop:=(∃kvs,Rd H a (.dK kvs)/\n=kvs.length)∨∃kvs,Rd H a (.dT kvs)/\n=kvs.length
theorem wO {P:Program}{w:World}{H:Hp}{s:Shared}{a:Addr}{n:Nat}(ok:fZ P w H s.heap)(h:DN H a n):fq fun o es ep=>s.heap.get? a=some o/\o.data = .dict es ep/\es.size=n/\(a==sysModules)=false/\s.TypeIs (.ref a) "dict":=by
 rcases h with ⟨kvs,e,rfl⟩|⟨kvs,e,rfl⟩
 ·obtain⟨z,hd,vs,rel,dd⟩:=kI ok e
  have ht:=dd.typeIs
  obtain⟨o,es,ep,ho,hc,hdat,hk,hp,hn⟩:=dd
  refine⟨o,es,ep,ho,hdat,?_,hd,ht⟩
  have:=hp.length
  rw[rel.length,<-this];simp
 ·obtain⟨z,hd,xs,rel,dd⟩:=mr ok e
  have ht:=dd.typeIs
  obtain⟨o,es,ep,ho,hc,hdat,he,_,hn⟩:=dd
  refine⟨o,es,ep,ho,hdat,?_,hd,ht⟩
  have:=congrArg J9 he
  rw[Ja,<-Paired.length rel] at this
  exact this
def L1:R2:=fun x y H Q=>fq fun(a b:Addr) (n:Nat)=>x = .ref a/\y = .ref b/\DN H a n/\DN H b 0/\Q (.bl (n==0)) H
theorem Qt {X:Cx}(hu:X.A.units<cLine):fj X (compareOp .Eq) L1:=by
 intro pins s σ H x y u v Q I rx ry h
 obtain⟨a,b,n,rfl,rfl,da,db,q⟩:=h
 cases (show u=Value.ref a from rx)
 cases (show v=Value.ref b from ry)
 obtain⟨oa,es,ep,hoa,hda,v5,hna,ta⟩:=wO I.aR da
 obtain⟨ob,es',ep',KJ,xM,Bn,hnb,tb⟩:=wO I.aR db
 refine wpAny_richCompare_same_room (op := .Eq) ta tb PySem.F.slot_dict_eq (wpAny_call_entry PySem.F.slot_dict_eq ta PySem.F.entry_dict_eq ?_ (PySem.F.args_dict_eq_2 _ _)) hu
 show wpAny _ _ (Builtin.Dict.dictSlotArgs "__eq__" ⟨[.ref a,.ref b],[]⟩ >>= _) _ _ s
 refine wpAny_bind ?_
 unfold Builtin.Dict.dictSlotArgs
 refine wpAny_bind (wpAny_notOrdered_dict ta ?_)
 show wpAny _ _ (pure (Value.ref a,Value.ref b)) _ _ s
 refine wpAny_pure ?_
 refine wpAny_bind (wpAny_isInstance (T := "dict") tb PySem.F.sub_dict_dict ?_)
 simp only[Bool.not_true,Ua,if_false]
 refine wpAny_bind (wpAny_pure (wpAny_bind (wpAny_pure ?_)))
 refine wpAny_bind ?_
 unfold Builtin.Dict.samePairs Builtin.Dict.showsAll
 rw[if_neg (show ¬(a==sysModules)=true by rw[hna];exact Jm),if_neg (show ¬(b==sysModules)=true by rw[hnb];exact Jm)]
 refine wpAny_bind (wpAny_pure (wpAny_bind (wpAny_pure ?_)))
 refine wpAny_bind (wpAny_dictEntries hoa hda ?_)
 dsimp only
 refine wpAny_bind (wpAny_dictEntries KJ xM ?_)
 by_cases hz:n=0
 ·rw[if_neg (by rw[v5,Bn,hz];simp)]
  refine wpAny_bind (wpAny_dictEpoch hoa hda ?_)
  refine wpAny_bind ?_
  rw[Std.Legacy.Range.forIn_eq_forIn_range']
  have e0:es.size=0:=by omega
  rw[e0]
  refine wpAny_pure (wpAny_pure (wpAny_pure ⟨_,rfl,(fun x=>nomatch x),?_⟩))
  refine⟨_,H,I,?_,q⟩
  rw[hz];rfl
 ·rw[if_pos (by rw[v5,Bn];simpa using hz)]
  refine wpAny_bind (wpAny_rule (wpAny_pure (wpAny_pure ⟨_,rfl,(fun x=>nomatch x),?_⟩)))
  refine⟨_,H,I,?_,q⟩
  have:(n==0)=false:=by simpa using hz
  rw[this];rfl
theorem pL {prog:Program}{w:World}{kvs:List (Key×V)}{vs:List (Key×Value)}(h:KV kvs vs):∀{az:List Value},az.length=vs.length ->
  (∀(j:Nat) v,az[j]? = some v->∃k x,vs[j]? = some (k,x)/\(aU prog w).is k v=true)->Vals (kvs.map fun q=>kV q.1) az:=by
 unfold KV at h
 induction h with
 | nil=>
  intro az hl _
  rw[J7 hl]
  exact .nil
 | @cons p q kvs vs h1 _ ih=>
  intro az hl h
  cases az with
  | nil=>cases hl
  | cons v az=>
  refine .cons ?_ (ih (Nat.succ.inj hl) fun j u e=>h (j+1) u e)
  obtain⟨k,x,e1,e2⟩:=h 0 v rfl
  cases e1
  show RelV (kV p.1) v
  rw[show p.1=k from h1.1]
  rcases bC e2 with ⟨n,t,z1,z2⟩|⟨y,t,z1,z2⟩
  ·rw[z1,z2];exact⟨t,rfl⟩
  ·rw[z1,z2];exact⟨t,rfl⟩
section
variable {X:Cx}
theorem ER (hc:X.calm=true):bU X (.type "list") (fun xs H Q=>bO fun(d:Addr) (kvs:List (Key×V))=>xs=[.ref d]/\H d=some (.dK kvs)/\∀p H',dM H p (.lst (kvs.map fun q=>kV q.1)) H'->Q (.ref p) H'):=by
 intro pins s σ H xs us Q I r h
 obtain⟨d,kvs,rfl,hd,q⟩:=h
 obtain⟨u,rfl,ru⟩:=vals1 r
 cases ru
 obtain⟨z,ns,vs,kv,o,es,ep,e,rr⟩:=I.aR d _ hd
 have kl:=kv.length
 refine kdl_call (kdl_dict (knd:=aU X.prog X.w) (kvs:=vs) (ep:=ep) ns) (I.ok.hd hc) ⟨o,es,e,rr⟩ (by omega) fun h' tk acc c k hS items =>?_
 refine⟨.ref s.heap.objs.size,_,I.laid (a:=s.heap.objs.size) (o := .lst (kvs.map fun q=>kV q.1)) (t':=tk) k (Jf _) ⟨by rw[Ja];exact z,acc.toList,c,?_,by simpa using hS⟩,rfl,q _ _ ⟨I.aR.fresh (Jf _),rfl⟩⟩
 exact pL kv (by rw[Jw];exact items.1) fun j v ej=>items.2 j v (by rw[<-Uh];exact ej)
end
section
variable {prog:Program}{w:World}{A:Around}{R:Result->Shared->Prop}{s:Shared}{kx vx t1 i1 t2 i2:Expr}{scope:Scope}{pos:Pos}{it:Value}{D:Addr}{env:Env}
theorem qh (I:Nat->Shared->Prop)
  (turn:∀n s,I n s->wpAny (model prog w) A (pyNext it) (fun r s1=>match r with
   | none=>R (.ok .next) s1
   | some v=>wpAny (model prog w) A (letOwnedTupleGo t2 it v) (fun _ s1'=>wpAny (model prog w) A (assign t2 env v) (fun _ s2=>
     wpAny (model prog w) A (eval kx env) (fun kv s4=>wpAny (model prog w) A (eval vx env) (fun vv s5=>
       wpAny (model prog w) A (dictSet D kv vv) (fun _ s6=>∃m,m<n/\I m s6) gh s5) gh s4) gh s2) gh s1') gh s1) gh s)
  (n:Nat) (h:I n s):codeAny (model prog w) A (.compLoop (.DictComp kx vx [⟨t1,i1,[],0⟩,⟨t2,i2,[],0⟩] scope pos) 1 it (.ref D) env) R s:=by
 refine codeAny_loop rfl I (fun n s hI=>(show wpAny _ A (Sem.onRaise (compTurn (.DictComp kx vx [⟨t1,i1,[],0⟩,⟨t2,i2,[],0⟩] scope pos) 1 it (.ref D) env) (fun x=>do noteFrame x env;theTreesLotGoes x)) _ _ s from wpAny_noted ?_)) n h
 refine wpAny_bind (wpAny_standAt (wpAny_bind (bB (aZ (turn n s hI) fun r s1 h1 =>?_))))
 cases r with
 | none=>exact wpAny_pure h1
 | some v=>
  refine wpAny_bind (bB (aZ h1 fun _ s1' h1' =>?_))
  refine wpAny_bind (bB (aZ h1' fun _ s2 h3=>wpAny_bind (wpAny_pure (a:=true) ?_)))
  exact wpAny_bind (wpAny_bind (bB (aZ h3 fun kv s4 h4=>wpAny_bind (wpAny_holding (bB (aZ h4 fun vv s5 h5=>wpAny_bind (wpAny_standAt (wpAny_holding (bB (aZ h5 fun _ s6 h6=>wpAny_pure ⟨rfl,h6⟩))))))))))
theorem qP (hs:∀x,foldedSetIterable i2 env x=pure x)(I:Nat->Shared->Prop)
  (turn:∀n s,I n s->wpAny (model prog w) A (pyNext it) (fun r s1=>match r with
   | none=>R (.ok .next) s1
   | some v=>wpAny (model prog w) A (letOwnedTupleGo t1 it v) (fun _ s1'=>wpAny (model prog w) A (assign t1 env v) (fun _ s2=>
     wpAny (model prog w) A (eval i2 env) (fun x s3=>wpAny (model prog w) A (pyIter x) (fun it2 s4=>
       codeAny (model prog w) A (.compStart (.DictComp kx vx [⟨t1,i1,[],0⟩,⟨t2,i2,[],0⟩] scope pos) 1 it2 (.ref D) env) (fun r s5=>match r with | .ok _=>∃m,m<n/\I m s5 | .error _=>False) s4) gh s3) gh s2) gh s1') gh s1) gh s)
  (n:Nat) (h:I n s):codeAny (model prog w) A (.compLoop (.DictComp kx vx [⟨t1,i1,[],0⟩,⟨t2,i2,[],0⟩] scope pos) 0 it (.ref D) env) R s:=by
 refine codeAny_loop rfl I (fun n s hI=>(show wpAny _ A (Sem.onRaise (compTurn (.DictComp kx vx [⟨t1,i1,[],0⟩,⟨t2,i2,[],0⟩] scope pos) 0 it (.ref D) env) (fun x=>do noteFrame x env;theTreesLotGoes x)) _ _ s from wpAny_noted ?_)) n h
 refine wpAny_bind (wpAny_standAt (wpAny_bind (bB (aZ (turn n s hI) fun r s1 h1 =>?_))))
 cases r with
 | none=>exact wpAny_pure h1
 | some v=>
  refine wpAny_bind (bB (aZ h1 fun _ s1' h1' =>?_))
  refine wpAny_bind (bB (aZ h1' fun _ s2 h3=>wpAny_bind (wpAny_pure (a:=true) ?_)))
  refine wpAny_bind (bB (aZ h3 fun x s3 h4=>wpAny_bind (wpAny_standAt (wpAny_bind (wpAny_of_eq (hs x) (wpAny_bind (wpAny_holding (bB (aZ h4 fun it2 s4 h5 =>?_)))))))))
  refine wpAny_bind (wpAny_runOwn (codeAny_mono h5 fun r s5 h6 =>?_))
  cases r with
  | ok f=>exact wpAny_pure ⟨rfl,h6⟩
  | error e=>exact h6.elim
theorem pZ {acc:Value}(h0:codeAny (model prog w) A (.compLoop (.DictComp kx vx [⟨t1,i1,[],0⟩,⟨t2,i2,[],0⟩] scope pos) 1 it acc env) R s)
  (h:wpAny (model prog w) A (pyIter it) (fun it' s'=>codeAny (model prog w) A (.compLoop (.DictComp kx vx [⟨t1,i1,[],0⟩,⟨t2,i2,[],0⟩] scope pos) 1 it' acc env) R s') gh s) :
  codeAny (model prog w) A (.compStart (.DictComp kx vx [⟨t1,i1,[],0⟩,⟨t2,i2,[],0⟩] scope pos) 1 it acc env) R s:=by
 refine codeAny_of_tree ?_
 show wpAny _ A ((compStart (.DictComp kx vx [⟨t1,i1,[],0⟩,⟨t2,i2,[],0⟩] scope pos) 1 it acc env).onRaise (fun x=>do noteFrame x env;standAt theWindowsPlace)) _ _ s
 refine wpAny_notedAt ?_
 unfold compStart
 show wpAny _ A (ask >>= _) _ _ s
 refine wpAny_bind (wpAny_askSetting (wpAny_ite ?_))
 split
 ·first
   | exact wpAny_bind (wpAny_pure (wpAny_pure (And.intro rfl h0)))
   | exact wpAny_pure (And.intro rfl h0)
 ·first
   | exact wpAny_bind (wpAny_rule (wpAny_bind (wpAny_standAt (wpAny_bind (bB (aZ h fun it' s' h'=>wpAny_pure (And.intro rfl h')))))))
   | (refine wpAny_bind (wpAny_rule ?_);show wpAny _ _ (standAt i2.pos >>= _) _ _ s;exact wpAny_bind (wpAny_standAt (wpAny_bind (bB (aZ h fun it' s' h'=>wpAny_pure (And.intro rfl h'))))))
end
def yJ (J:It)(n:Nat)(js:List Nat)(g:TG)(vV:TI)(i:Nat)(tk tv:TE)(σ:St)(D:Addr)(H1:Hp)(fin:Hp->Prop):Prop:=
 ∃W:Nat->Nat->Hp->Prop,(∃m,W 0 m H1)/\∀k m H,W k m H ->
  (J.stop k H/\fin H) ∨
  (J.go k H/\∀x H',J.yld k H x H'->g x (Jp n none++cO σ js) H' fun σ2 H2 =>σ2[i]? = some none/\vV σ2 H2 fun J2 H3=>∃V:Nat->Nat->Hp->Prop,(∃m2,V 0 m2 H3)/\∀k2 m2 H,V k2 m2 H ->
   (J2.stop k2 H/\∃m',m'<m/\W (k+1) m' H) ∨
   (J2.go k2 H/\∀y H',J2.yld k2 H y H'->tk (σ2.set i (some y)) H' fun kk H4=>tv (σ2.set i (some y)) H4 fun z H5=>bO fun kvs key=>H5 D=some (.dK kvs)/\kk=kV key/\kvs.length<sizeLine/\∃m',m'<m2/\V (k2+1) m' (upd H5 D (.dK (putK kvs key z)))))
def zP (wi:TI)(n:Nat)(js:List Nat)(g:TG)(vV:TI)(i:Nat)(tk tv:TE):TE:=fun σ H Q=>wi σ H fun J H1=>∀D,H1 D=none->yJ J n js g vV i tk tv σ D (upd H1 D (.dK [])) fun H2=>Q (.ref D) H2
section
variable {X:Cx}{kx vx t1 i1 t2 i2:Expr}{scope:Scope}{pos:Pos}{vV:TI}{i:Nat}{tk tv:TE}{pins:List (Addr×Obj)}{s:Shared}{σ:St}{H:Hp}{D:Addr}{fin:Hp->Prop}
theorem yg (Io:X.xe=gh)(cL:X.calm=true)(vW:PI X t2 i2 vV)(Eg:PG X t2 (gU i))(cD:PE X kx tk)(vR:PE X vx tv)(I:Inv X pins σ H s)(h0: σ[i]? = some none)
  (h:vV σ H fun J2 H3=>∃V:Nat->Nat->Hp->Prop,(∃m2,V 0 m2 H3)/\∀k2 m2 H,V k2 m2 H->(J2.stop k2 H/\fin H) ∨
   (J2.go k2 H/\∀y H',J2.yld k2 H y H'->tk (σ.set i (some y)) H' fun kk H4=>tv (σ.set i (some y)) H4 fun z H5=>bO fun kvs key=>H5 D=some (.dK kvs)/\kk=kV key/\kvs.length<sizeLine/\∃m',m'<m2/\V (k2+1) m' (upd H5 D (.dK (putK kvs key z)))))
  {R:Shared->Prop} (q:∀H' s',Inv X pins σ H' s'->fin H'->R s') :
  wpAny (model X.prog X.w) X.A (eval i2 X.env) (fun x s3=>wpAny (model X.prog X.w) X.A (pyIter x) (fun it2 s4=>
   codeAny (model X.prog X.w) X.A (.compStart (.DictComp kx vx [⟨t1,i1,[],0⟩,⟨t2,i2,[],0⟩] scope pos) 1 it2 (.ref D) X.env) (fun r s5=>match r with | .ok _=>R s5 | .error _=>False) s4) gh s3) gh s:=by
 have vW:=vW s σ H _ I h
 have QE:=Eg
 have Qw:=cD
 have OZ:=vR
 rw[Io] at vW
 refine aZ vW fun v s1 h1=>aZ h1 fun Ec s2 h2 =>?_
 obtain⟨it,fp,tn,J,H2,e,I2,T,bQ,f2,V,⟨m0,w0⟩,turn⟩:=h2
 subst e
 have gb:∀{H':Hp},(∀b∈fp,H' b=none)->∀b∈fp,d6 X pins H' b:=fun hn b hb=>⟨hn b hb,(f2 b hb).2⟩
 have loop:∀t1',codeAny (model X.prog X.w) X.A (.compLoop (.DictComp kx vx [⟨t1,i1,[],0⟩,⟨t2,i2,[],0⟩] scope pos) 1 (.ref it) (.ref D) X.env) (fun r s5=>match r with | .ok _=>R s5 | .error _=>False) { s2 with toks:=t1' }:=by
  intro t1'
  refine qh (fun n s'=>∃k H',Inv X pins σ H' s'/\tn k s'.heap/\(∀b∈fp,H' b=none)/\V k n H') ?_ m0 ⟨0,H2,I2.tok _,bQ,fun b hb=>(f2 b hb).1,w0⟩
  intro n s3
  refine ae.go ?_
  rintro k H3 I3 cS fr3 w3
  rcases turn k n H3 w3 with ⟨stop,qn⟩|⟨go,step⟩
  ·refine aZ (T.done X rfl rfl rfl cL k pins s3 σ H3 gh I3 (gb fr3) cS stop) fun r s4 hz_ =>?_
   refine ae.el hz_ _ ?_
   clear hz_
   rintro hr I4
   subst hr
   exact q H3 s4 I4 qn
  ·refine aZ (T.item X rfl rfl rfl cL k pins s3 σ H3 gh I3 (gb fr3) cS go) fun r s4 hz_ =>?_
   refine ae.el hz_ _ ?_
   clear hz_
   rintro u hr h4
   subst hr
   refine aZ h4 fun _ s5 hz_ =>?_
   refine ae.el hz_ _ ?_
   clear hz_
   rintro x H5 I5 r5 y5 dz fr5
   have zj:=I5.pinned (gb fr5) (T.obj _ _ dz)
   have hg:=Eg s5 σ H5 x u (fun σ' H' =>σ' = σ.set i (some x)/\H'=H5) zj r5 ⟨rfl,rfl⟩
   rw[Io] at hg
   refine aZ hg fun _ s6 hz_ =>?_
   refine ae.el hz_ _ ?_
   clear hz_
   rintro σ6 H6 I6 e6 e6'
   subst e6 e6'
   have hk:=cD s6 _ _ _ I6 (step x _ y5)
   rw[Io] at hk
   refine aZ hk fun yv s8 hz_ =>?_
   refine ae.el hz_ _ ?_
   clear hz_
   rintro y H8 I8 r8 q8
   have hv:=vR s8 _ _ _ I8 q8
   rw[Io] at hv
   refine aZ hv fun zv s9 hz_ =>?_
   refine ae.el hz_ _ ?_
   clear hz_
   rintro z H9 I9 r9 q9
   refine ae.el (q9) _ ?_
   rintro kvs key eD ey hl m' uN w9
   subst ey
   refine mF I9 eD hl r8 r9 fun s10 I10 =>?_
   refine⟨m',uN,k+1,_,Inv.weak I10.dJ (by rw[List.length_set]) fun j v hj =>?_,T.keep _ _ _ dz fun b hb o e=>(I10.pin (b,o) (Jj _ (Jj _ (bP hb e)))).1,fun b hb =>?_,w9⟩
   ·by_cases hji:j=i
    ·subst hji;rw[h0] at hj;cases hj
    ·rw[List.getElem?_set_ne (Ne.symm hji)];exact hj
   ·refine ae.el (T.obj _ _ dz b hb) _ ?_
    rintro o e d
    exact(I10.pin (b,o) (Jj _ (Jj _ (bP hb e)))).2.1
 exact pZ (loop _) (T.self _ 0 _ _ _ bQ (loop _))
end
theorem qt {X:Cx}{kx vx tg iter t2 i2:Expr}{vV:TI}{EE:Nat}{scope:Scope}{pos:Pos}{Nc Fc:List Str}{js:List Nat}{wi:TI}{g:TG}{tk tv:TE}{use:Option (Value->Sem Unit)}{QV:Value->Shared->Prop}
  (cL:X.calm=true) (c:dY X scope Nc Fc js) (hi:PI X tg iter wi)
  (hg:∀cl C s H fp,PG (fL X Nc Fc scope cl C s H fp) tg g) (vW:∀cl C s H fp,PI (fL X Nc Fc scope cl C s H fp) t2 i2 vV) (Eg:∀cl C s H fp,PG (fL X Nc Fc scope cl C s H fp) t2 (gU EE)) (cD:∀cl C s H fp,PE (fL X Nc Fc scope cl C s H fp) kx tk) (vR:∀cl C s H fp,PE (fL X Nc Fc scope cl C s H fp) vx tv) (gk:Gk Nc.length g)
  {pins:List (Addr×Obj)} {s:Shared} {σ:St} {H:Hp} {fin:Addr->Hp->Prop} (I:Inv X pins σ H s)
  (h:wi σ H fun J H1=>∀D,H1 D=none->yJ J Nc.length js g vV EE tk tv σ D (upd H1 D (.dK [])) (fin D))
  (behind:∀(C D:Addr) (m:Str->Option Value) (H2:Hp) (s2:Shared),Inv X pins σ H2 s2->s2.heap.Ns C m->d6 X pins H2 C->fin D H2->compPost (model X.prog X.w) X.A X.xe use QV (.ref D) C (.ok .next) s2)
  (hs:∀x,foldedSetIterable iter X.env x=pure x) (vZ:∀cl C s H fp x,foldedSetIterable i2 (fL X Nc Fc scope cl C s H fp).env x=pure x) :
  wpAny (model X.prog X.w) X.A (comprehension (.DictComp kx vx [⟨tg,iter,[],0⟩,⟨t2,i2,[],0⟩] scope pos) scope X.env (firstIterPos [⟨tg,iter,[],0⟩,⟨t2,i2,[],0⟩] pos) newDict false (eval iter X.env) use) QV X.xe s:=by
 obtain⟨cl,hclos,dA,il⟩:=iE (scope:=scope) (env:=X.env) fun y hy hf=>I.ok.has y.1 (c.free y hy hf)
 refine wpAny_comprehension_free (use:=use) rfl hs hclos c.kind c.names ?_
 refine aZ (hi s σ H _ I h) fun v s1 h1=>aZ h1 fun Ec s2 h2 =>?_
 obtain⟨it,fp,tn,J,H2,e,I2,T,bQ,f2,all⟩:=h2
 subst e
 refine wpAny_newObj_type (wpAny_newFunctionEnv c.nocell (by intro y hy;simp at hy) (fun h1 hns1 hsb1 =>?_) c.kind)
 dsimp only at hns1 hsb1 ⊢
 have zu:H2 s2.heap.objs.size=none:=I2.aR.fresh (Jf _)
 have yK:=I2.laid (a:=s2.heap.objs.size) (o := .dK []) (h':=s2.heap.push { cls := .type "dict",data := .dict #[] }) (t':=s2.toks) (fun _ _ q=>Jb _ q) (Jf _) (i0 s2.heap I2.big)
 obtain⟨W,⟨m0,w0⟩,turn⟩:=all _ zu
 have Gg:∀b∈fp,∃o,s2.heap.get? b=some o:=fun b hb=>let ⟨o,e,_⟩:=T.obj 0 _ bQ b hb; ⟨o,e⟩
 have lV:∀b∈fp,b<s2.heap.objs.size:=fun b hb=>let ⟨o,e⟩:=Gg b hb;Jk e
 generalize hG:s2.heap.push { cls := .type "dict",dict:=none,data := .dict #[] } = G at hns1 hsb1 yK ⊢
 have toG:∀b o,s2.heap.get? b=some o->G.get? b=some o:=fun b o e=>hG▸Jb _ e
 have hC:G.objs.size=s2.heap.objs.size+1:=by rw[<-hG,Yg]
 have old:∀b o,G.get? b=some o->h1.get? b=some o:=fun b o e=>
  hsb1.extBut b o (cn (Jk e) (Jf _)) (Jb _ e)
 let D:Addr:=s2.heap.objs.size
 let s2':Shared:={ s2 with heap:=G,toks:=s2.toks }
 let H2':Hp:=upd H2 D (.dK [])
 have Dw:∀b∈fp,d6 X pins H2' b:=fun b hb=>by
  obtain⟨a1,a2⟩:=f2 b hb
  refine⟨?_,a2⟩
  show upd H2 D (.dK []) b=none
  rw[aj (Jz (lV b hb))];exact a1
 have fo:∀b∈fp,∃o,s2'.heap.get? b=some o:=fun b hb=>let ⟨o,e⟩:=Gg b hb; ⟨o,toG b o e⟩
 have Mm:∀b∈fp,b<G.objs.size:=fun b hb=>by have:=lV b hb;rw[hC];exact Wl this
 let Xc:Cx:=fL X Nc Fc scope cl G.objs.size s2' H2' fp
 have gb:∀{H':Hp},(∀b∈fp,H' b=none)->∀b∈fp,d6 Xc [] H' b:=fun{H'} hn b hb=>by
  refine⟨hn b hb,?_,?_,.inl hb,fun x a e =>?_,fun p hq =>?_⟩
  ·exact cn (Mm b hb) (Jf _)
  ·exact(lr yK c dA il (Jf _) Dw fo).exfs b hb
  ·exact(f2 b hb).2.2.2.2.1 x a (dA _ _ e)
  ·have q:p∈([]:List (Addr×Obj))++[]:=hq
   simp at q
 have loop:∀t1,codeAny (model X.prog X.w) X.A (.compLoop (.DictComp kx vx [⟨tg,iter,[],0⟩,⟨t2,i2,[],0⟩] scope pos) 0 (.ref it) (.ref s2.heap.objs.size) (compEnvC scope cl G.objs.size X.env))
   (compPost (model X.prog X.w) X.A X.xe use QV (.ref s2.heap.objs.size) G.objs.size) { s2 with heap:=h1,toks:=t1 }:=by
  intro t1
  refine qP (vZ cl G.objs.size s2' H2' fp) (fun n s'=>∃i H',Inv Xc [] (Jp Nc.length none++cO σ js) H' s'/\tn i s'.heap/\(∀b∈fp,H' b=none)/\W i n H') ?_ m0
   ⟨0,H2',ph yK c dA il (Jf _) Dw fo old hns1,T.keep _ _ _ bQ (fun b hb o e=>old b o (toG b o e)),fun b hb=>(Dw b hb).1,w0⟩
  intro n s3
  refine ae.go ?_
  rintro i H3 I3 cS fr3 w3
  rcases turn i n H3 w3 with ⟨stop,qn⟩|⟨go,step⟩
  ·refine aZ (T.done Xc rfl rfl rfl cL i _ s3 _ H3 gh I3 (gb fr3) cS stop) fun r s4 hz_ =>?_
   refine ae.el hz_ _ ?_
   clear hz_
   rintro hr I4
   subst hr
   show compPost _ _ _ _ _ _ _ _ _
   refine ae.el (I4.loc) _ ?_
   rintro mC hmC _
   have E6:H3 G.objs.size=none:=I4.free
   have u:Un (m5 X.stack) fp H2' H3 G s4.heap:=I4.base
   have mw:∀b∈fp,(b∈X.ex∨X.s₀.heap.objs.size<=b)/\b≠X.env.locals/\(∀x c,X.env.cells.lookup x=some c->c≠b)/\∀p∈X.pn++pins,p.1≠b:=fun b hb=>
    ⟨(f2 b hb).2.2.2.1,(f2 b hb).2.1,(f2 b hb).2.2.2.2.1,(f2 b hb).2.2.2.2.2⟩
   have G4:s4.os=s2'.os:=I4.os
   have J4:Inv X pins σ H3 s4:=yK.tI (H':=H3) G4 u I4.aR I4.bare mw
   exact behind G.objs.size D mC H3 s4 J4 hmC (yK.jd (Jf _) E6) qn
  ·refine aZ (T.item Xc rfl rfl rfl cL i _ s3 _ H3 gh I3 (gb fr3) cS go) fun r s4 hz_ =>?_
   refine ae.el hz_ _ ?_
   clear hz_
   rintro u hr h4
   subst hr
   show wpAny _ _ (letOwnedTupleGo tg (.ref it) u) _ _ _
   refine aZ h4 fun _ s5 hz_ =>?_
   refine ae.el hz_ _ ?_
   clear hz_
   rintro x H5 I5 r5 y5 dz fr5
   have zj:=I5.pinned (gb fr5) (T.obj _ _ dz)
   refine aZ (hg cl G.objs.size s2' H2' fp s5 _ H5 x u _ zj r5 (gk _ _ _ _ (step x H5 y5))) fun _ s6 ⟨σ6,H6,I6,⟨q60,q6⟩,kσ,kl⟩=>?_
   have later:∀{σ':St} {H':Hp} {s':Shared},Inv Xc ([]++eK fp s5.heap) σ' H' s'->tn (i+1) s'.heap/\∀b∈fp,H' b=none:=fun{σ' H' s'} Iz=>by
    refine⟨T.keep _ _ _ dz fun b hb o e=>(Iz.pin (b,o) (Jj _ (Jj _ (bP hb e)))).1,fun b hb =>?_⟩
    refine ae.el (T.obj _ _ dz b hb) _ ?_
    rintro o e d
    exact(Iz.pin (b,o) (Jj _ (Jj _ (bP hb e)))).2.1
   have back:∀{pl:List (Addr×Obj)} {H':Hp} {s':Shared},Inv Xc pl σ6 H' s'->Inv Xc pl (Jp Nc.length none++cO σ js) H' s':=fun{pl H' s'} Iz=>by
    refine Iz.weak (by rw[<-kl]) fun j v hj =>?_
    by_cases hn:j<Nc.length
    ·rw[Ul (by simpa using hn),Yu] at hj
     split at hj<;>cases hj
    ·rw[kσ j (by omega)];exact hj
   refine yg (X:=Xc) rfl cL (vW cl G.objs.size s2' H2' fp) (Eg cl G.objs.size s2' H2' fp) (cD cl G.objs.size s2' H2' fp) (vR cl G.objs.size s2' H2' fp) I6 q60 q6 fun H7 s7 I7 q7 =>?_
   refine ae.el (q7) _ ?_
   rintro m' uN w7
   obtain⟨l1,l2⟩:=later I7
   exact⟨m',uN,i+1,H7,back I7.dJ,l1,l2,w7⟩
 exact codeAny_compStart_dict (loop _) (T.self _ 0 _ _ _ (T.keep _ _ _ bQ fun b hb o e=>old b o (toG b o e)) (loop _))
theorem vq {X:Cx}{kx vx tg iter t2 i2:Expr}{vV:TI}{EE:Nat}{scope:Scope}{pos:Pos}{Nc Fc:List Str}{js:List Nat}{wi:TI}{g:TG}{tk tv:TE}
  (cL:X.calm=true) (c:dY X scope Nc Fc js) (hi:PI X tg iter wi) (gk:Gk Nc.length g)
  (hg:∀cl C s H fp,PG (fL X Nc Fc scope cl C s H fp) tg g) (vW:∀cl C s H fp,PI (fL X Nc Fc scope cl C s H fp) t2 i2 vV) (Eg:∀cl C s H fp,PG (fL X Nc Fc scope cl C s H fp) t2 (gU EE)) (cD:∀cl C s H fp,PE (fL X Nc Fc scope cl C s H fp) kx tk) (vR:∀cl C s H fp,PE (fL X Nc Fc scope cl C s H fp) vx tv)
  (hs:∀x,foldedSetIterable iter X.env x=pure x:=by intro _;rfl) (vZ:∀cl C s H fp x,foldedSetIterable i2 (fL X Nc Fc scope cl C s H fp).env x=pure x:=by intros;rfl) :
  PE X (.DictComp kx vx [⟨tg,iter,[],0⟩,⟨t2,i2,[],0⟩] scope pos) (zP wi Nc.length js g vV EE tk tv):=by
 intro pins s σ H Q I h
 rw[arm_eval_DictComp]
 refine qt (use:=none) (fin:=fun D H2=>Q (.ref D) H2) cL c hi hg vW Eg cD vR gk I h (fun C D m H2 s2 I2 hm hC q =>?_) hs vZ
 refine⟨m,hm,fun h' hs' =>?_⟩
 exact⟨.ref D,_,I2.turned (it:=C) (t':=s2.toks) (fun b o hb e=>hs'.extBut b o hb e) hC.1 (hC.2.1) hC.2.2.2.1 hC.2.2.2.2.1 hC.2.2.2.2.2,rfl,q⟩
structure BU (prog:Program)(w:World)(A:Around)(it S:Addr)(fp:Addr->Prop)(n:Nat)(P:Nat->Value->Heap->Prop)(R:Value->Value->Prop)(St:Nat->Heap->Prop):Prop where
 sfp:¬fp S
 item:∀i (s:Shared) (Q:Option Value->Shared->Prop) (E:Value->Shared->Prop),i<n->St i s.heap->S<s.heap.objs.size ->
  (∀v h' tk,Keeps s.heap h' fp->St (i+1) h'->P i v h'->(∀j u,P j u s.heap->R u v)->Q (some v) { s with heap:=h',toks:=tk })->wpAny (model prog w) A (pyNext (.ref it)) Q E s
 stop:∀(s:Shared) (Q:Option Value->Shared->Prop) (E:Value->Shared->Prop),St n s.heap->S<s.heap.objs.size->(∀h' tk,Keeps s.heap h' fp->Q none { s with heap:=h',toks:=tk })->wpAny (model prog w) A (pyNext (.ref it)) Q E s
 keepS:∀i h h',St i h->Keeps h h' (· = S)->St i h'
 keepP:∀j v h h',P j v h->Keeps h h' (fun b=>fp b∨b=S)->P j v h'
section
variable {prog:Program}{w:World}{A:Around}{it S:Addr}{fp:Addr->Prop}{n:Nat}{P:Nat->Value->Heap->Prop}{R:Value->Value->Prop}{St:Nat->Heap->Prop}
theorem kO (Fd:BU prog w A.in1 it S fp n P R St)(hn:n<=sizeLine){s:Shared}{Z:Result->Shared->Prop}{res:Value}{g:Heap}(fin:j5 g S fp n P R s (Z (.ok (.ret res)))):
  ∀(k i:Nat) (h:Heap) (tk:Nat) (acc:Array Value) (c:Nat),i+k=n->St i h->qG h S i P R acc c->Keeps g h (fun b=>fp b∨b=S) ->
   codeAny (model prog w) A (.builtin "list.extend.loop" ⟨[.ref S,.ref it,res],[]⟩) Z { s with heap:=h,toks:=tk }
 | 0,i,h,tk,acc,c,hk,i5,G,kp=>by
  have e:i=n:=by omega
  subst e
  refine codeAny_builtin PySem.F.entry_extend_loop ?_
  rw[Around.under_plainId PySem.F.plain_extend_loop _]
  refine wpAny_bind (Fd.stop { s with heap:=h,toks:=tk } _ _ i5 (Jk G.ob) fun h' tk' k'=>wpAny_pure ?_)
  exact fin h' tk' acc c (fun b o nb q=>k' b o (fun z=>nb (.inl z)) (kp b o nb q)) ⟨k' _ _ Fd.sfp G.ob,G.sz,G.pw,fun j v e=>Fd.keepP _ _ _ _ (G.all j v e) fun b o nb q=>k' b o (fun z=>nb (.inl z)) q⟩
 | k+1,i,h,tk,acc,c,hk,i5,G,kp=>by
  refine codeAny_builtin PySem.F.entry_extend_loop ?_
  rw[Around.under_plainId PySem.F.plain_extend_loop _]
  refine wpAny_bind (Fd.item i { s with heap:=h,toks:=tk } _ _ (by omega) i5 (Jk G.ob) fun v h' tk' k' aE pv rv =>?_)
  have Dx:=k' _ _ Fd.sfp G.ob
  have other:Keeps h' (h'.update S (Obj.mapSeq (·.push v))) (· = S):=fun b o nb q=>(Uq _ _ (Ne.symm nb)).trans q
  have k2:Keeps h (h'.update S (Obj.mapSeq (·.push v))) (fun b=>fp b∨b=S):=fun b o nb q=>other b o (fun z=>nb (.inr z)) (k' b o (fun z=>nb (.inl z)) q)
  have sz:=G.sz
  refine wpAny_bind (wpAny_updateSeq Dx rfl (wpAny_pure ⟨plainId_quiet PySem.F.plain_extend_loop _,?_⟩) (by rw[sz];omega) (by show(acc.push v).size<=sizeLine+1;rw[Wj,sz];omega))
  refine kO Fd hn fin k (i+1) _ tk' (acc.push v) _ (by omega) (Fd.keepS _ _ _ aE other) ⟨Ur _ Dx rfl,by rw[Wj,sz],?_,fun j u e =>?_⟩ (fun b o nb q=>k2 b o nb (kp b o nb q))
  ·rw[Yl]
   refine Ug.mpr ⟨G.pw,List.pairwise_singleton _ _,fun a ha b hb =>?_⟩
   obtain⟨j,hj⟩:=U5.mp ha
   rw[Jd.mp hb]
   exact rv j a (G.all j a (by simpa using hj))
  ·by_cases hj:j<i
   ·rw[Array.getElem?_push_lt (by omega)] at e
    exact Fd.keepP _ _ _ _ (G.all j u (by rw[Ub (by omega)];exact e)) k2
   ·have yF:j=i:=by
     have:=(Array.getElem?_eq_some_iff.mp e).1
     rw[Wj] at this
     omega
    subst yF
    have e':(acc.push v)[acc.size]? = some u:=by rw[sz];exact e
    rw[Array.getElem?_push_size] at e'
    cases e'
    exact Fd.keepP _ _ _ _ pv fun b o nb q=>other b o (fun z=>nb (.inr z)) q
end
theorem dR:Slot "set_iterator" "__next__" "set_iterator.__next__":=by
 refine .of (owner := "set_iterator") (n := "__next__") ?_ ?_ ?_ ?_ ?_ ?_
 ·rw[typeLookup_type,builtinLookup_eq_fast];kernel_rfl
 ·decide +kernel
 ·decide +kernel
 ·decide +kernel
 ·first
   | exact .inl (by decide +kernel)
   | exact .inr (by decide +kernel)
 ·rw[isSubtype_type];kernel_rfl
theorem i8:entryFor table "set_iterator.__next__" = some Builtin.«set_iterator.__next__»:=entryFor_of_fast (by kernel_rfl)
theorem jQ (a:Value):argsOk "set_iterator.__next__" ⟨[a],[]⟩:=by
 unfold argsOk
 rw[signature?_of (id := "set_iterator.__next__") (n := "__txen__".toList) (o := "rotareti_tes".toList) (rows:=Manifest.sig_set_iterator) (by kernel_rfl) (by kernel_rfl)]
 kernel_rfl
theorem kL:entryFor table "set.__iter__" = some Builtin.«frozenset.__iter__»:=entryFor_alias (id' := "frozenset.__iter__") (by kernel_rfl) rfl (by decide +kernel) (by kernel_rfl)
theorem iC {α:Type}:∀{l:List α} {i:Nat} (h:i<l.length),U4 (l[i]::l.eraseIdx i) l
 | x::l,0,h=>U4.refl _
 | x::l,i+1,h=>by
  rw[List.eraseIdx_cons_succ,List.getElem_cons_succ]
  exact(U4.swap _ _ _).trans ((iC (Nat.lt_of_succ_lt_succ h)).cons x)
theorem tY {α:Type}(next:Nat->Nat):∀(n k:Nat) (left:List α) (out:Array α),left.length=n->U4 (pickOrder.go next n k left out).toList (out.toList++left)
 | 0,k,left,out,h=>by
  unfold pickOrder.go
  rw[J7 h,Uo]
 | n+1,k,left,out,h=>by
  unfold pickOrder.go
  have hp:next k%left.length<left.length:=Nat.mod_lt _ (by omega)
  rw[Jg hp]
  dsimp only
  refine(tY next n (k+1) _ _ (by rw[List.length_eraseIdx,if_pos hp];omega)).trans ?_
  rw[Yl,Uv]
  refine U4.append_left _ ?_
  rw[List.singleton_append]
  exact iC hp
theorem vt {α:Type}(next:Nat->Nat)(xs:Array α):U4 (pickOrder next xs).toList xs.toList:=tY next _ 0 _ #[] rfl
theorem sE {M:Model}{A:Around}{E:Value->Shared->Prop}{α:Type}:∀(n:Nat) (xs:List α) (s:Shared) (Q:List α->Shared->Prop),xs.length=n ->
  (∀ys d,U4 ys xs->Q ys { s with drawn:=d })->wpAny M A (drawOrder n xs) Q E s:=by
 intro n
 induction n with
 | zero=>
  intro xs s Q h q
  unfold drawOrder
  exact wpAny_pure (q [] s.drawn (by rw[J7 h]))
 | succ n ih=>
  intro xs s Q h q
  cases xs with
  | nil=>cases h
  | cons x xs=>
   unfold drawOrder
   refine wpAny_bind (fun Γ p hΓ =>?_)
   unfold choose
   rw[Sem.wp_choose]
   refine⟨by simp,?_⟩
   have hp:M.w.draws .order (s.drawn.get .order)%(x::xs).length<(x::xs).length:=Nat.mod_lt _ (by simp)
   generalize M.w.draws .order (s.drawn.get .order)%(x::xs).length=i at hp ⊢
   rw[Sem.wp_pure]
   dsimp only
   rw[Jg hp]
   refine wpAny_bind (ih _ _ _ (by rw[List.length_eraseIdx,if_pos hp];omega) fun ys d hy=>wpAny_pure (q _ d ?_))
   exact(hy.cons _).trans (iC hp)
noncomputable def Dc (w:World):Bool:=w.params.followText "set-order"
inductive yj (w:World)(a:Addr)(es:Array (Int×Value))(ep:Nat)(t:SetTable)(lo i:Nat)(h:Heap)(it:Addr):Value->List Value->Prop
 | text (b:Dc w=true):yj w a es ep t lo i h it (.int 0 0) ((pickOrder (w.params.setOrder a ep) es).toList.map (·.2))
 | places (b:Dc w=false) (d:(!t.plain&&decide (es.size>1))=false) (l:t.led=true) (z:Nat) (c:Cut t.place z i):yj w a es ep t lo i h it (.int (z:Int) 0) (es.toList.map (·.2))
 | drawn (ys:List Nat) (p:U4 ys (We es.size)) (tp:Addr) (low:lo<=tp) (ne:tp≠it) (o:Obj) (n:Nat) (e:h.get? tp=some o) (d:o.data = .seq (ys.map fun(k:Nat)=>rawInt k).toArray n):yj w a es ep t lo i h it (.ref tp) (ys.map fun k=>(es.toList.map (·.2)).getD k .none)
structure BZ (w:World)(a:Addr)(es:Array (Int×Value))(ep:Nat)(t:SetTable)(lo:Nat)(vals:List Value)(it:Addr)(i:Nat)(h:Heap):Prop where
 set:∃o,h.get? a=some o/\o.data = .set es ep t
 fit:t.fits es.size=true
 good:cM t
 ne:a≠it
 low:lo<=it
 ex:∃first,yj w a es ep t lo i h it first vals/\h.get? it=some { cls := .type "set_iterator",data := .fields #[first,.int i 0,.ref a,.int es.size 0,.int ep 0] }
theorem BZ.keep {w:World}{a:Addr}{es:Array (Int×Value)}{ep:Nat}{t:SetTable}{lo:Nat}{vals:List Value}{it:Addr}{i:Nat}{h h':Heap}(x:BZ w a es ep t lo vals it i h)(k:∀b o,h.get? b=some o->(b=a∨lo<=b)->h'.get? b=some o):BZ w a es ep t lo vals it i h':=by
 obtain⟨⟨o,e1,e2⟩,ft,g,ne,low,first,so,e3⟩:=x
 refine⟨⟨o,k _ _ e1 (.inl rfl),e2⟩,ft,g,ne,low,first,?_,k _ _ e3 (.inr low)⟩
 cases so with
 | text b=>exact .text b
 | places b d l z c=>exact .places b d l z c
 | drawn ys p tp tl ne o n e d=>exact .drawn ys p tp tl ne o n (k _ _ e (.inr tl)) d
section
variable {prog:Program}{w:World}{A:Around}{E:Value->Shared->Prop}{s:Shared}{a:Addr}{es:Array (Int×Value)}{ep:Nat}{t:SetTable}{o:Obj}{lo:Nat}
theorem yO {Q:Value->Shared->Prop}(ho:s.heap.get? a=some o)(hx:o.ExactSet)(hd:o.data = .set es ep t)(hf:t.fits es.size=true)(g:cM t)(l:Dc w=false->t.led=true)(hz:es.size<=sizeLine)
  (fin:∀it h' d vals,vals.length=es.size->U4 vals (es.toList.map (·.2))->s.heap.objs.size<=it->(∀b o,s.heap.get? b=some o->h'.get? b=some o)->BZ w a es ep t s.heap.objs.size vals it 0 h'->Q (.ref it) { s with heap:=h',drawn:=d }) :
  wpAny (model prog w) A (pyIter (.ref a)) Q E s:=by
 have hT:s.TypeIs (.ref a) "set":=⟨o,ho,hx.1⟩
 have low:a<s.heap.objs.size:=Jk ho
 refine wpAny_pyIter_slot hT F.slot_set_iter (wpAny_call_entry F.slot_set_iter hT kL ?_ (F.args_set_iter_1 _))
 unfold Builtin.«frozenset.__iter__» Builtin.Frozenset.slot0 slotArgs Builtin.Frozenset.addrOf Builtin.Frozenset.sizeOf setEntries setDrawn setEpoch setsByText
 simp -iota only [List.isEmpty_nil,Bool.not_true,Ua, ↓reduceIte,bind_assoc,Yr,bne_self_eq_false]
 dsimp only
 try simp -iota only [bind_assoc,Ua, ↓reduceIte]
 refine wpAny_bind (wpAny_pure (wpAny_bind (wpAny_pure (wpAny_bind (wpAny_setState_of ho hd hf (wpAny_bind (wpAny_pure (wpAny_bind (wpAny_pure (wpAny_bind (wpAny_setState_of ho hd hf ?_)))))))))))
 refine wpAny_bind (wpAny_askSetting (wpAny_bind (wpAny_pure (wpAny_bind (wpAny_pure ?_)))))
 have last:∀(s1:Shared) (d:Drawn) (first:Value) (vals:List Value),s1.drawn=d->s1.gens=s.gens->s1.toks=s.toks->s1.os=s.os->(∀b o,s.heap.get? b=some o->s1.heap.get? b=some o)->s.heap.objs.size<=s1.heap.objs.size->vals.length=es.size->U4 vals (es.toList.map (·.2)) ->
   (∀h' it,s1.heap.objs.size<=it->(∀b o,s1.heap.get? b=some o->h'.get? b=some o)->yj w a es ep t s.heap.objs.size 0 h' it first vals) ->
   wpAny (model prog w) A.in1 (do
    let x <-setState a
    let y <-pure x.2.1
    let z <-newFields "set_iterator" [first,rawInt 0,.ref a,rawInt es.size,rawInt y]
    ret z) (fun fin s'=>∃v,fin = .done (.ret v)/\∃T' r,s'.TypeIs v T'/\typeLookup (.type T') (Str.ofString "__next__")=pure (some r)/\Q v s') E s1:=by
  intro s1 d first vals e1 e2 e3 e4 k1 z1 hl hp so
  refine wpAny_bind (wpAny_setState_of (k1 _ _ ho) hd hf (wpAny_bind (wpAny_pure ?_)))
  unfold newFields
  refine wpAny_bind (wpAny_newObj_type (wpAny_pure ?_))
  refine⟨_,rfl, "set_iterator",_,⟨_,Jo _ rfl,rfl⟩,dR.lookup,?_⟩
  have k2:∀b o,s1.heap.get? b=some o->(s1.heap.push { cls := .type "set_iterator",data := .fields [first,rawInt 0,.ref a,rawInt es.size,rawInt ep].toArray }).get? b=some o:=fun b o x=>Jb _ x
  have q:=fin s1.heap.objs.size (s1.heap.push { cls := .type "set_iterator",data := .fields [first,rawInt 0,.ref a,rawInt es.size,rawInt ep].toArray }) d vals hl hp z1 (fun b o x=>k2 b o (k1 b o x)) ⟨⟨o,k2 _ _ (k1 _ _ ho),hd⟩,hf,g,Jz (Jv low z1),z1,first,so _ _ (Jf _) k2,Jo _ rfl⟩
  subst e1
  rw[<-e2,<-e3,<-e4] at q
  exact q
 have lv:(es.toList.map (·.2)).length=es.size:=by rw[Ja,Jw]
 cases hb:Dc w with
 | true=>
  have qK:w.params.followText "set-order" = true:=hb
  refine wpAny_ite ?_
  rw[if_neg (by show ¬((!w.params.followText "set-order" && _)=true);rw[qK];exact Jm)]
  refine wpAny_bind (wpAny_pure ?_)
  have pm:=vt (w.params.setOrder a ep) es
  exact last s s.drawn _ _ rfl rfl rfl rfl (fun _ _ x=>x) (Jf _) (by rw[Ja,pm.length_eq,Jw]) (pm.map _) fun h' it _ _ =>.text hb
 | false=>
  have qK:w.params.followText "set-order" = false:=hb
  refine wpAny_ite ?_
  cases hc:(!t.plain&&decide (es.size>1)) with
  | false=>
   rw[if_neg (by show ¬((!w.params.followText "set-order" && (!t.plain&&decide (es.size>1)))=true);rw[qK,hc];exact Jm)]
   refine wpAny_bind (wpAny_pure ?_)
   exact last s s.drawn _ _ rfl rfl rfl rfl (fun _ _ x=>x) (Jf _) lv (U4.refl _) fun h' it _ _ =>.places hb hc (l hb) 0 ⟨Us _,fun i _ z=>absurd z (Nat.not_lt_zero _),fun i _ _=>Us _⟩
  | true=>
   rw[if_pos (by show(!w.params.followText "set-order" && (!t.plain&&decide (es.size>1)))=true;rw[qK,hc];rfl)]
   refine wpAny_bind (sE _ _ _ _ Yp fun ys d hy =>?_)
   have HW:ys.length=es.size:=by rw[hy.length_eq,Yp]
   refine wpAny_bind (wpAny_newTuple ?_ (by rw[Ja,HW];exact hz))
   have rm:U4 (ys.map fun k=>(es.toList.map (·.2)).getD k .none) (es.toList.map (·.2)):=by
    refine(hy.map _).trans ?_
    have:(We es.size).map (fun k=>(es.toList.map (·.2)).getD k .none)=es.toList.map (·.2):=by
     refine List.ext_getElem (by rw[Ja,Yp,lv]) fun i h1 h2 =>?_
     rw[List.getElem_map,List.getElem_range,Yx,Jg h2];rfl
    rw[this]
   refine last { s with heap:=s.heap.push { cls := .type "tuple",data := .seq (ys.map fun(i:Nat)=>rawInt i).toArray },drawn:=d } d _ _ rfl rfl rfl rfl (fun b o x=>Jb _ x) (by show _<=(s.heap.push _).objs.size;rw[Yg];exact Yv _) (by rw[Ja,HW]) rm fun h' it hit k' =>?_
   refine .drawn ys hy _ (Jf _) ?_ _ 0 (k' _ _ (Jo _ rfl)) rfl
   have hit:(s.heap.push { cls := .type "tuple",data := .seq (ys.map fun(i:Nat)=>rawInt i).toArray }).objs.size<=it:=hit
   rw[Yg] at hit
   exact Jz hit
theorem mJ {Q:Array (Int×Value)->Shared->Prop}(b:Dc w=true)(ho:s.heap.get? a=some o)(hd:o.data = .set es ep t)(hf:t.fits es.size=true)(q:Q (pickOrder (w.params.setOrder a ep) es) s):wpAny (model prog w) A (setWalk a) Q E s:=by
 unfold setWalk setsByText
 have b':w.params.followText "set-order" = true:=b
 refine wpAny_bind (wpAny_setState_of ho hd hf (wpAny_bind (wpAny_bind (wpAny_askSetting (wpAny_pure ?_)))))
 refine wpAny_ite ?_
 rw[if_pos (show({ program:=(model prog w).prog,params:=(model prog w).w.params }:Setting).params.followText "set-order" = true from b')]
 exact wpAny_bind (wpAny_askSetting (wpAny_pure q))
theorem xF {vals:List Value}{it:Addr}{i:Nat}{v:Value}{Q:Option Value->Shared->Prop}(st:BZ w a es ep t lo vals it i s.heap)(hv:vals[i]? = some v)
  (fin:∀h',(∀b o,b≠it->s.heap.get? b=some o->h'.get? b=some o)->h'.objs.size=s.heap.objs.size->BZ w a es ep t lo vals it (i+1) h'->Q (some v) { s with heap:=h' }) :
  wpAny (model prog w) A (pyNext (.ref it)) Q E s:=by
 obtain⟨⟨o,ho,hd⟩,hf,g,ne,low,first,so,e⟩:=st
 have hT:s.TypeIs (.ref it) "set_iterator":=⟨_,e,rfl⟩
 refine wpAny_bind (wpAny_attempt (wpAny_callSpecial?_slot (name:=Str.ofString "__next__") hT dR (wpAny_call_entry dR hT i8 ?_ (jQ _))))
 unfold Builtin.«set_iterator.__next__» slotArgs setEntries setNext setsByText
 simp -iota only [List.isEmpty_nil,Bool.not_true,Ua, ↓reduceIte,bind_assoc,Yr,bne_self_eq_false]
 dsimp only
 try simp -iota only [bind_assoc,Ua, ↓reduceIte]
 refine wpAny_bind (wpAny_pure (wpAny_bind (wpAny_fieldsOf e rfl ?_)))
 dsimp only
 refine wpAny_bind (wpAny_setState_of ho hd hf (wpAny_bind (wpAny_pure ?_)))
 refine wpAny_ite ?_
 rw[if_neg (by simp)]
 cases so with
 | text b=>
  have b':w.params.followText "set-order" = true:=b
  refine wpAny_bind (wpAny_setState_of ho hd hf (wpAny_bind (wpAny_askSetting (wpAny_bind (wpAny_pure ?_)))))
  refine wpAny_bind (wpAny_ite ?_)
  rw[if_pos (show({ program:=(model prog w).prog,params:=(model prog w).w.params }:Setting).params.followText "set-order" = true from b')]
  refine wpAny_ite ?_
  rw[if_neg (by simp)]
  refine wpAny_bind (mJ b ho hd hf (wpAny_pure ?_))
  have hx:((pickOrder (w.params.setOrder a ep) es)[(i:Int).toNat]?).map (fun e=>(e.2,(0:Int).toNat))=some (v,0):=by
   rw[Uz,<-Uh]
   rw[Jl] at hv
   cases q:(pickOrder (w.params.setOrder a ep) es).toList[i]? with
   | none=>rw[q] at hv;cases hv
   | some y=>rw[q] at hv;cases hv;rfl
  rw[hx]
  refine wpAny_bind (wpAny_setField_rec e (by simp) fun h1 e1 s1=>wpAny_bind (wpAny_setField_rec (s:={ s with heap:=h1 }) e1 (by simp) fun h2 e2 s2 =>?_))
  refine wpAny_pure ⟨_,rfl,wpAny_pure (fin h2 (fun b o nb x=>s2.extBut b o nb (s1.extBut b o nb x)) (s2.1.trans s1.1) ⟨⟨o,s2.extBut _ _ ne (s1.extBut _ _ ne ho),hd⟩,hf,g,ne,low,_,.text b,?_⟩)⟩
  simpa [rawInt] using e2
 | places b d l z c=>
  have b':w.params.followText "set-order" = false:=b
  have Ah:t.place.size=es.size:=by
   have:=hf
   simp only[SetTable.fits,Yh,beq_iff_eq] at this
   exact this.1
  have hi:i<es.size:=by
   have:=(Jy.mp hv).1
   rwa[Ja,Jw] at this
  refine wpAny_bind (wpAny_setState_of ho hd hf (wpAny_bind (wpAny_askSetting (wpAny_bind (wpAny_pure ?_)))))
  refine wpAny_bind (wpAny_ite ?_)
  rw[if_neg (by show ¬(w.params.followText "set-order" = true);rw[b'];exact Jm)]
  refine wpAny_ite ?_
  rw[if_neg (by show ¬((!t.plain&&decide (es.size>1))=true);rw[d];exact Jm)]
  refine wpAny_bind ?_
  show wpAny _ _ (if (!t.led && !es.isEmpty)=true then unsupported "set:maker-not-led" else pure ()) _ _ _
  rw[l]
  refine wpAny_pure ?_
  have Cy:SetTable.below t.place ((z:Int)).toNat=i:=by
   rw[Uz]
   have c2:=fK g.2 z
   have h1:¬SetTable.below t.place z<i:=fun q=>by
    have hs:SetTable.below t.place z<t.place.size:=by omega
    have:=c2.hi _ hs (Jf _)
    have:=c.lo _ hs q
    omega
   have h2:¬i<SetTable.below t.place z:=fun q=>by
    have hs:i<t.place.size:=by omega
    have:=c2.lo _ hs q
    have:=c.hi _ hs (Jf _)
    omega
   omega
  refine wpAny_pure ?_
  dsimp only
  rw[Cy,Ub hi,Ub (show i<t.place.size by omega)]
  have NP:es[i].2=v:=by
   rw[Jl,Uh,Ub hi] at hv
   injection hv
  dsimp only
  rw[NP]
  refine wpAny_bind (wpAny_setField_rec e (by simp) fun h1 e1 s1=>wpAny_bind (wpAny_setField_rec (s:={ s with heap:=h1 }) e1 (by simp) fun h2 e2 s2 =>?_))
  refine wpAny_pure ⟨_,rfl,wpAny_pure (fin h2 (fun b o nb x=>s2.extBut b o nb (s1.extBut b o nb x)) (s2.1.trans s1.1) ⟨⟨o,s2.extBut _ _ ne (s1.extBut _ _ ne ho),hd⟩,hf,g,ne,low,_,.places b d l (t.place[i]+1) ?_,?_⟩)⟩
  ·have c3:=fK g.2 (t.place[i]+1)
   rw[Cut.next g.2 (by omega) c3] at c3
   exact c3
  ·simpa [rawInt] using e2
 | drawn ys p tp tl nt ot n et dt=>
  dsimp only
  unfold seqItems?
  refine wpAny_bind (wpAny_bind (wpAny_load et ?_))
  rw[dt]
  refine wpAny_pure ?_
  dsimp only
  rw[Jl] at hv
  cases hy:ys[i]? with
  | none=>rw[hy] at hv;cases hv
  | some y=>
   rw[hy] at hv
   injection hv with hv
   have OI:y<es.size:=Wr.mp (p.mem_iff.mp (Y4 hy))
   have mG:(ys.map fun(k:Nat)=>rawInt k).toArray[(i:Int).toNat]? = some (rawInt y):=by
    rw[Uz,List.getElem?_toArray,Jl,hy];rfl
   rw[mG]
   have Ha:es[y].2=v:=by
    rw[<-hv]
    dsimp only
    rw[Yx,Jl,Uh,Ub OI];rfl
   show wpAny _ _ (setNextDrawn a ((y:Int)).toNat ((ep:Int)).toNat >>= _) _ _ _
   rw[Uz,Uz]
   unfold setNextDrawn
   refine wpAny_bind (wpAny_bind (wpAny_setState_of ho hd hf ?_))
   dsimp only
   refine wpAny_ite ?_
   rw[if_neg (by simp),Ub OI]
   refine wpAny_pure ?_
   show wpAny _ _ (setField (.ref it) 1 (rawInt ((i:Int)+1)) >>= fun _=>ret es[y].2) _ _ _
   rw[Ha]
   refine wpAny_bind (wpAny_setField_rec e (by simp) fun h1 e1 s1 =>?_)
   refine wpAny_pure ⟨_,rfl,wpAny_pure (fin h1 (fun b o nb x=>s1.extBut b o nb x) s1.1 ⟨⟨o,s1.extBut _ _ ne ho,hd⟩,hf,g,ne,low,_,.drawn ys p tp tl nt ot n (s1.extBut _ _ nt et) dt,?_⟩)⟩
   simpa [rawInt] using e1
theorem xD {vals:List Value}{it:Addr}{Q:Option Value->Shared->Prop}(hh:A.handled=none)(st:BZ w a es ep t lo vals it es.size s.heap)(hl:vals.length=es.size)
  (fin:∀h',(∀b o,b≠it->s.heap.get? b=some o->h'.get? b=some o)->Q none { s with heap:=h' }) :
  wpAny (model prog w) A (pyNext (.ref it)) Q E s:=by
 obtain⟨⟨o,ho,hd⟩,hf,g,ne,low,first,so,e⟩:=st
 have hT:s.TypeIs (.ref it) "set_iterator":=⟨_,e,rfl⟩
 refine wpAny_bind (wpAny_attempt (wpAny_callSpecial?_slot (name:=Str.ofString "__next__") hT dR (wpAny_call_entry dR hT i8 ?_ (jQ _))))
 unfold Builtin.«set_iterator.__next__» slotArgs setEntries setNext setsByText
 simp -iota only [List.isEmpty_nil,Bool.not_true,Ua, ↓reduceIte,bind_assoc,Yr,bne_self_eq_false]
 dsimp only
 try simp -iota only [bind_assoc,Ua, ↓reduceIte]
 refine wpAny_bind (wpAny_pure (wpAny_bind (wpAny_fieldsOf e rfl ?_)))
 dsimp only
 refine wpAny_bind (wpAny_setState_of ho hd hf (wpAny_bind (wpAny_pure ?_)))
 refine wpAny_ite ?_
 rw[if_neg (by simp)]
 cases so with
 | text b=>
  have b':w.params.followText "set-order" = true:=b
  refine wpAny_bind (wpAny_setState_of ho hd hf (wpAny_bind (wpAny_askSetting (wpAny_bind (wpAny_pure ?_)))))
  refine wpAny_bind (wpAny_ite ?_)
  rw[if_pos (show({ program:=(model prog w).prog,params:=(model prog w).w.params }:Setting).params.followText "set-order" = true from b')]
  refine wpAny_ite ?_
  rw[if_neg (by simp)]
  refine wpAny_bind (mJ b ho hd hf (wpAny_pure ?_))
  have hx:((pickOrder (w.params.setOrder a ep) es)[(es.size:Int).toNat]?).map (fun e=>(e.2,(0:Int).toNat))=none:=by
   have:(pickOrder (w.params.setOrder a ep) es).size=es.size:=by rw[<-hl,Ja,Jw]
   rw[Uz,Yd (by omega)];rfl
  rw[hx]
  refine wpAny_bind (wpAny_setField_rec e (by simp) fun h1 e1 s1 =>?_)
  wp_walk
  refine wpAny_raiseNew_none hh (wpAny_bind (wpAny_isInstance (T := "StopIteration") (b:=true) ⟨_,Jo _ rfl,rfl⟩ isSubtype_stop (wpAny_pure (fin _ fun b o nb x =>?_))))
  exact Jb _ (Jb _ (s1.extBut b o nb x))
 | places b d l z c=>
  have b':w.params.followText "set-order" = false:=b
  have Ah:t.place.size=es.size:=by
   have:=hf
   simp only[SetTable.fits,Yh,beq_iff_eq] at this
   exact this.1
  refine wpAny_bind (wpAny_setState_of ho hd hf (wpAny_bind (wpAny_askSetting (wpAny_bind (wpAny_pure ?_)))))
  refine wpAny_bind (wpAny_ite ?_)
  rw[if_neg (by show ¬(w.params.followText "set-order" = true);rw[b'];exact Jm)]
  refine wpAny_ite ?_
  rw[if_neg (by show ¬((!t.plain&&decide (es.size>1))=true);rw[d];exact Jm)]
  refine wpAny_bind ?_
  show wpAny _ _ (if (!t.led && !es.isEmpty)=true then unsupported "set:maker-not-led" else pure ()) _ _ _
  rw[l]
  refine wpAny_pure ?_
  have Cy:es.size<=SetTable.below t.place ((z:Int)).toNat:=by
   rw[Uz]
   have c2:=fK g.2 z
   refine Nat.not_lt.mp fun q =>?_
   have hs:SetTable.below t.place z<t.place.size:=by omega
   have:=c2.hi _ hs (Jf _)
   have:=c.lo _ hs q
   omega
  refine wpAny_pure ?_
  dsimp only
  rw[Yd Cy]
  dsimp only
  refine wpAny_bind (wpAny_setField_rec e (by simp) fun h1 e1 s1 =>?_)
  wp_walk
  refine wpAny_raiseNew_none hh (wpAny_bind (wpAny_isInstance (T := "StopIteration") (b:=true) ⟨_,Jo _ rfl,rfl⟩ isSubtype_stop (wpAny_pure (fin _ fun b o nb x =>?_))))
  exact Jb _ (Jb _ (s1.extBut b o nb x))
 | drawn ys p tp tl nt ot n et dt=>
  dsimp only
  unfold seqItems?
  refine wpAny_bind (wpAny_bind (wpAny_load et ?_))
  rw[dt]
  refine wpAny_pure ?_
  dsimp only
  have HW:ys.length=es.size:=by rw[p.length_eq,Yp]
  have mG:(ys.map fun(k:Nat)=>rawInt k).toArray[(es.size:Int).toNat]? = none:=by
   rw[Uz,Yd (by rw[Jr,Ja,HW];exact Jf _)]
  rw[mG]
  refine wpAny_bind (wpAny_setField_rec e (by simp) fun h0 e0 s0=>wpAny_bind (wpAny_setField_rec (s:={ s with heap:=h0 }) e0 (by simp) fun h1 e1 s1 =>?_))
  wp_walk
  refine wpAny_raiseNew_none hh (wpAny_bind (wpAny_isInstance (T := "StopIteration") (b:=true) ⟨_,Jo _ rfl,rfl⟩ isSubtype_stop (wpAny_pure (fin _ fun b o nb x =>?_))))
  exact Jb _ (Jb _ (s1.extBut b o nb (s0.extBut b o nb x)))
end
section
variable {prog:Program}{w:World}{a:Addr}{es:Array (Int×Value)}{ep:Nat}{t:SetTable}{lo:Nat}
theorem xH {A:Around}{it S:Addr}{vals:List Value}(hh:A.handled=none)(hl:vals.length=es.size)(n1:it≠S)(n2:a≠S)(hS:S<lo):
  BU prog w A it S (· = it) es.size (fun i v _=>vals[i]? = some v) (fun _ _=>True) (fun i h=>BZ w a es ep t lo vals it i h) where
 sfp:=fun z=>n1 z.symm
 item:=fun i s Q E hi st _ q=>xF st (v:=vals[i]) (Jg (by omega)) fun h' k' z' aE=>q _ h' s.toks (fun b o nb x=>k' b o nb x) aE (Jg (by omega)) fun _ _ _=>trivial
 stop:=fun s Q E st _ q=>xD hh st hl fun h' k'=>q h' s.toks fun b o nb x=>k' b o nb x
 keepS:=fun i h h' st k=>st.keep fun b o e hb=>k b o (fun z=>by
  rcases hb with rfl|hb
  ·exact n2 z
  ·subst z;exact absurd hS (Nat.not_lt.mpr hb)) e
 keepP:=fun j v h h' p k=>p
theorem Ax:isSubtype (.type "set") (.type "set")=pure true:=by
 first|rfl|decide|(unfold isSubtype;rfl)
theorem sC {A:Around}{S:Addr}{o:Obj}(hh:A.in1.handled=none){s:Shared}{Z:Result->Shared->Prop}{res:Value}{c0:Nat}(ho:s.heap.get? a=some o)(hx:o.ExactSet)(hd:o.data = .set es ep t)(hf:t.fits es.size=true)(g:cM t)(l:Dc w=false->t.led=true)(hz:es.size<=sizeLine)
  (Ol:a≠S) (hS:s.heap.get? S=some { cls := .type "list",data := .seq #[] c0 })
  (fin:∀h' tk d acc c vals,Keeps s.heap h' (· = S)->vals.length=es.size->U4 vals (es.toList.map (·.2))->qG h' S es.size (fun i v _=>vals[i]? = some v) (fun _ _=>True) acc c->Z (.ok (.ret res)) { s with heap:=h',toks:=tk,drawn:=d }) :
  wpAny (model prog w) A.in1 (Builtin.List.listExtendWith (.ref S) (.ref a) res) (sU prog w A Z) (fun e s'=>Z (.error e) s') s:=by
 have hT:s.TypeIs (.ref a) "set":=⟨o,ho,hx.1⟩
 have yz:Builtin.List.listSameRef (.ref S) (.ref a)=false:=by simp[Builtin.List.listSameRef,Ne.symm Ol]
 have low:=Jk hS
 unfold Builtin.List.listExtendWith
 refine wpAny_bind (wpAny_typeOf hT ?_)
 simp only[yz,show(Value.type "set" == Value.type "list")=false by decide,show(Value.type "set" == Value.type "tuple")=false by decide,Bool.or_false,Ua,if_false]
 refine wpAny_bind (yO ho hx hd hf g l hz fun it h1 d vals hl hp hit k1 gw =>?_)
 have Bp:Shared.TypeIs { s with heap:=h1,drawn:=d } (.ref a) "set":=⟨o,k1 _ _ ho,hx.1⟩
 have hint:∀(Q:Bool->Shared->Prop),Q false { s with heap:=h1,drawn:=d } -> wpAny (model prog w) A.in1 (Builtin.List.listLengthHint (.ref a)) Q (fun e s'=>Z (.error e) s') { s with heap:=h1,drawn:=d }:=fun Q q=>by
  unfold Builtin.List.listLengthHint
  refine wpAny_bind (wpAny_specialOf Bp F.slot_set_len.lookup ?_)
  refine wpAny_bind (wpAny_isInstance (T := "set") (b:=true) Bp Ax ?_)
  refine wpAny_ite_split (fun z=>absurd z (by decide)) fun _=>wpAny_ite_split (fun _ =>?_) fun z=>absurd (show _=true by decide +kernel) z
  exact wpAny_bind (wpAny_typeOf Bp (wpAny_pure q))
 refine wpAny_bind (wpAny_holding (hint _ ?_))
 have Eo:=k1 _ _ hS
 have nS:it≠S:=fun z=>by subst z;exact absurd low (Nat.not_lt.mpr hit)
 have go:∀(h:Heap) (c tk:Nat),Keeps h1 h (· = S)->h.get? S=some { cls := .type "list",data := .seq #[] c } -> codeAny (model prog w) A (.builtin "list.extend.loop" ⟨[.ref S,.ref it,res],[]⟩) Z { s with heap:=h,toks:=tk,drawn:=d }:=fun h c tk k ob=>by
  have Fd:=xH (prog:=prog) (w:=w) (ep:=ep) (t:=t) (vals:=vals) (A:=A.in1) hh hl nS Ol low
  refine kO Fd hz (s:={ s with drawn:=d }) (g:=h1) (fun h' tk acc c k' G=>fin h' tk d acc c vals (fun b o nb q=>k' b o (fun z=>z.elim (fun z=>by subst z;exact absurd (Jk q) (Nat.not_lt.mpr hit)) nb) (k1 b o q)) hl hp G) es.size 0 h tk #[] c (by omega) (Fd.keepS _ _ _ gw k) ⟨ob,rfl,.nil,fun j v e=>by simp at e⟩ fun b o nb q=>k b o (fun z=>nb (.inr z)) q
 refine wpAny_ite_split (fun _ =>?_) fun z=>absurd (show _=true by decide +kernel) z
 refine wpAny_bind (wpAny_rule (wpAny_bind ?_))
 have o1:=Ur (Obj.mapSeq (·.push Value.none)) Eo rfl
 have o2:=Ur (Obj.mapSeq (·.pop)) o1 rfl
 refine wpAny_bind (wpAny_updateSeq (s:={ s with heap:=h1,drawn:=d }) Eo rfl (wpAny_updateSeq (hz:=by seq_fits) o1 rfl (wpAny_pure ⟨plainId_quiet PySem.F.plain_extend_loop _,go _ _ _ (fun b o nb q =>?_) o2⟩)))
 exact(Uq _ _ (Ne.symm nb)).trans ((Uq _ _ (Ne.symm nb)).trans q)
theorem qr {A:Around}{E:Value->Shared->Prop}{o:Obj}(hh:A.handled=none){s:Shared}{Q:List Value->Shared->Prop}(ho:s.heap.get? a=some o)(hx:o.ExactSet)(hd:o.data = .set es ep t)(hf:t.fits es.size=true)(g:cM t)(l:Dc w=false->t.led=true)(hz:es.size<=sizeLine)
  (fin:∀h' tk d vals,s.heap.objs.size<=h'.objs.size->(∀b o,s.heap.get? b=some o->h'.get? b=some o)->U4 vals (es.toList.map (·.2))->Q vals { s with heap:=h',toks:=tk,drawn:=d }):wpAny (model prog w) A (collect (.ref a)) Q E s:=by
 unfold collect
 refine wpAny_bind (wpAny_runValue (codeAny_builtin PySem.F.entry_proto_collect ?_))
 rw[Around.under_plainId PySem.F.plain_proto_collect _]
 show wpAny _ A.in1 (newList [] >>= fun l=>again (.builtin "list.__iadd__" ⟨[l,.ref a],[]⟩)) _ _ s
 refine wpAny_bind (wpAny_newObj_type (wpAny_pure ⟨plainId_quiet PySem.F.plain_list_iadd _,codeAny_builtin PySem.F.entry_list_iadd ?_⟩))
 rw[Around.under_plainId PySem.F.plain_list_iadd _]
 have k0:∀b o,s.heap.get? b=some o->(s.heap.push { cls := .type "list",data := .seq ([]:List Value).toArray }).get? b=some o:=fun b o x=>Jb _ x
 refine sC (s:={ s with heap:=s.heap.push { cls := .type "list",data := .seq ([]:List Value).toArray } }) (A:=A) (res := .ref s.heap.objs.size)
  (Z:=fun(r:Result) s'=>match r with
   | .ok (.ret v)=>wpAny (model prog w) A (match v with
    | .ref a=>(load a >>= fun o=>match o.data with
     | .seq xs _=>pure xs.toList
     | _=>unsupported "internal:collect")
    | _=>unsupported "internal:collect") Q E s'
   | .ok _=>False
   | .error e=>E e s') hh (k0 _ _ ho) hx hd hf g l hz (Jz (Jk ho)) (Jo _ rfl) fun h' tk d acc c vals k hl hp G =>?_
 refine wpAny_bind (wpAny_load G.ob (wpAny_pure ?_))
 have e:acc.toList=vals:=by
  refine List.ext_getElem? fun j =>?_
  by_cases hj:j<acc.size
  ·rw[Uh,Ub hj]
   exact(G.all j _ (Ub hj)).symm
  ·rw[Uh,Yd (by omega),List.getElem?_eq_none (by have:=G.sz;omega)]
 rw[e]
 exact fin h' tk d vals (Uy (Jk G.ob)) (fun b o x=>k b o (Jz (Jk x)) (k0 b o x)) hp
end
theorem jW {α:Type}[DecidableEq α]:∀{D ns:List α},D.Nodup->(∀k∈D,k∈ns)->ns.length<=D.length->U4 ns D
 | [],ns,_,_,hl=>by rw[J7 (Nat.le_zero.mp hl)]
 | k::D,ns,nd,sub,hl=>by
  obtain⟨nk,v8⟩:=U2.mp nd
  have hk:=sub k Js
  refine(List.perm_cons_erase hk).trans (U4.cons k (jW v8 (fun x hx =>?_) ?_))
  ·exact(List.mem_erase_of_ne (fun z=>nk (by rw[<-z];exact hx))).mpr (sub x (Jq _ hx))
  ·rw[List.length_erase_of_mem hk]
   rw[Jt] at hl
   omega
theorem Inv.drawn {X:Cx}{pins:List (Addr×Obj)}{σ:St}{H:Hp}{s:Shared}(d:Drawn)(I:Inv X pins σ H s):Inv X pins σ H { s with drawn:=d }:=⟨I.ok,I.os,I.bare,I.base,I.loc,I.cell,I.free,I.freeC,I.pin,I.aR,I.len⟩
theorem Ao:typeLookup (.type "list") "keys" = pure none:=by rw[typeLookup_type,builtinLookup_eq_fast];kernel_rfl
theorem Gy:typeLookup (.type "list") "__getattr__" = pure none:=by rw[typeLookup_type,builtinLookup_eq_fast];kernel_rfl
theorem yt:isSubtype (.type "AttributeError") (.type "AttributeError")=pure true:=by first|rfl|(rw[isSubtype_type];kernel_rfl)
section
variable {prog:Program}{w:World}{A:Around}{E:Value->Shared->Prop}{h:Heap}{g:Array GenState}{d:Drawn}{t:Nat}{os:OsState}{a:Addr}{o:Obj}
theorem rQ {tk:Tok}{Q:Fin->Shared->Prop}(hx:h.get? a=some o)(hc:o.cls = .type "list")(zd:o.dict=none){xs:Array Value}{n:Nat}(hd:o.data = .seq xs n)(hh:A.handled=none)
  (hq:∀e h' t',(∀b o,h.get? b=some o->h'.get? b=some o)->(∃oe,h'.get? e=some oe/\oe.cls = .type "AttributeError")->E (.ref e) ⟨h',g,d,t',os⟩) :
  wpAny (model prog w) A (Builtin.«object.__getattribute__» ⟨[.ref a,.str "keys" tk],[]⟩) Q E ⟨h,g,d,t,os⟩:=by
 have hT:(⟨h,g,d,t,os⟩:Shared).TypeIs (.ref a) "list":=⟨_,hx,hc⟩
 have f4:=Ao
 repeat (any_goals (first|assumption|wp_step))
 rw[hd]
 dsimp only
 unfold instanceDict
 repeat (any_goals (first|assumption|wp_step))
 rw[zd,hc]
 repeat (any_goals (first|assumption|wp_step))
 have f9:=yt
 unfold raiseAttrError noteAttr
 wp_walk
 rw[show(Manifest.find? "AttributeError").elim false (fun t=>t.mro.contains "StopIteration" || t.mro.contains "SystemExit")=false by decide +kernel,if_neg Jm]
 repeat (any_goals (first|assumption|wp_step))
 refine wpAny_raiseNew_none hh (hq _ _ _ (fun b o' x =>?_) ⟨_,Ur _ (Jo _ rfl) rfl,rfl⟩)
 have x1:=Jb (h:=h) { cls:=Value.type "tuple",data:=Data.seq #[Value.str (Str.ofString (toString "'" ++ toString ((Manifest.find? "list").elim "list" fun x=>x.tpName)++toString "' object has no attribute '")++Str.ofString "keys" ++ Str.ofString "'") t] } x
 rw[Uq _ _ (Yk (Jk x1))]
 exact Jb _ x1
theorem uE {tk:Tok}{R:Result->Shared->Prop}(hx:h.get? a=some o)(hc:o.cls = .type "list")(zd:o.dict=none){xs:Array Value}{n:Nat}(hd:o.data = .seq xs n)(hh:A.handled=none)
  (hq:∀e h' t',(∀b o,h.get? b=some o->h'.get? b=some o)->(∃oe,h'.get? e=some oe/\oe.cls = .type "AttributeError")->R (.error (.ref e)) ⟨h',g,d,t',os⟩) :
  codeAny (model prog w) A (.call (.builtin "list.__getattribute__") ⟨[.ref a,.str "keys" tk],[]⟩) R ⟨h,g,d,t,os⟩:=
 codeAny_call_builtin F.slot_list_getattribute.plain F.entry_list_ga (F.slot_list_getattribute.check _ _ _ _ _ _ _ _ (show(⟨h,g,d,t,os⟩:Shared).TypeIs (.ref a) "list" from⟨_,hx,hc⟩) (F.args_list_getattribute_2 _ _) (rQ hx hc zd hd hh hq))
theorem vF {Q:Option Value->Shared->Prop}(hx:h.get? a=some o)(hc:o.cls = .type "list")(zd:o.dict=none){xs:Array Value}{n:Nat}(hd:o.data = .seq xs n)(hh:A.handled=none)
  (hq:∀h' t',(∀b o,h.get? b=some o->h'.get? b=some o)->Q none ⟨h',g,d,t',os⟩):wpAny (model prog w) A (getAttr? (.ref a) "keys") Q E ⟨h,g,d,t,os⟩:=by
 have hT:(⟨h,g,d,t+1,os⟩:Shared).TypeIs (.ref a) "list":=⟨_,hx,hc⟩
 have f2:=F.slot_list_getattribute.lookup
 have f3:=F.slot_list_getattribute.bind (.ref a)
 have f4:=Gy
 unfold getAttr? getAttrBy?
 repeat (any_goals (first|assumption|wp_step))
 refine uE hx hc zd hd hh fun e h' t' k hoe =>?_
 have O8:Shared.TypeIs ⟨h',g,d,t',os⟩ (.ref e) "AttributeError":=hoe
 have f5:=yt
 dsimp only
 unfold getattributeRaised
 refine wpAny_bind (wpAny_isInstance (T := "AttributeError") (b:=true) O8 f5 ?_)
 rw[if_pos rfl]
 unfold hookBehind
 repeat (any_goals (first|assumption|wp_step))
 exact hq h' t' k
end
theorem hU:entryFor table "dict.update.loop" = some Builtin.«dict.update.loop»:=entryFor_of_fast (by kernel_rfl)
theorem dg:plainId "dict.update.loop" = true:=by decide +kernel
section
variable {prog:Program}{w:World}{K:Type}[DecidableEq K]{knd:KeyKind prog w K}{A:Around}{E:Value->Shared->Prop}
def rS (knd:KeyKind prog w K)(h:Heap)(v:Value)(kv:K×Value):Prop:=∃(tp:Addr) (o:Obj) (n:Nat) (ku:Value),v = .ref tp/\h.get? tp=some o/\o.cls = .type "tuple" /\ o.data = .seq #[ku,kv.2] n/\knd.is kv.1 ku=true
theorem lu {s:Shared}{R:Result->Shared->Prop}{it l d:Addr}{items:Array Value}{kvs:List (K×Value)}{g:Heap}(hh:A.in1.handled=none)(hl:g.IsList l items)(hn:items.size=kvs.length)(hz:kvs.length<=100000)
  (hp:∀(j:Nat) v kv,items[j]? = some v->kvs[j]? = some kv->rS knd g v kv) (lit:∀b o,g.get? b=some o->b≠it/\b≠d) (ne:d≠it)
  (fin:∀h tk,(∀b o,b≠d->b≠it->g.get? b=some o->h.get? b=some o)->h.DictOf knd d (merged [] kvs)->R (.ok (.ret .none)) { s with heap:=h,toks:=tk }) :
  ∀(k i:Nat) (h:Heap) (tk:Nat) (acc:List (K×Value)),i+k=kvs.length->acc.length<=i->merged acc (kvs.drop i)=merged [] kvs->(∀b o,b≠d->b≠it->g.get? b=some o->h.get? b=some o)->h.IsListIter it l i->h.DictOf knd d acc ->
   codeAny (model prog w) A (.builtin "dict.update.loop" ⟨[.ref d,.ref it,rawInt i,.none],[]⟩) R { s with heap:=h,toks:=tk }
 | 0,i,h,tk,acc,hk,ha,hm,kp,hi,hd=>by
  have e:i=kvs.length:=by omega
  subst e
  have iK:h.IsList l items:=by
   obtain⟨o,ho,r⟩:=hl
   exact⟨o,kp _ _ (lit _ _ ho).2 (lit _ _ ho).1 ho,r⟩
  refine codeAny_builtin hU ?_
  rw[Around.under_plainId dg _]
  unfold Builtin.«dict.update.loop»
  refine wpAny_bind (wpAny_pyNext_list_end (s:={ s with heap:=h,toks:=tk }) hh hi iK (by rw[Yd (by omega)]) fun h' eb =>?_)
  refine wpAny_bind (m:=Builtin.Dict.addKeywords d []) (wpAny_pure (wpAny_pure ?_))
  refine fin h' tk (fun b o nd ni x=>eb b o ni (kp b o nd ni x)) ?_
  rw[List.drop_length] at hm
  have hm:acc=merged [] kvs:=hm
  rw[<-hm]
  obtain⟨o,es,ep,ho,r⟩:=hd
  exact⟨o,es,ep,eb _ _ ne ho,r⟩
 | k+1,i,h,tk,acc,hk,ha,hm,kp,hi,hd=>by
  have bN:i<kvs.length:=by omega
  have iK:h.IsList l items:=by
   obtain⟨o,ho,r⟩:=hl
   exact⟨o,kp _ _ (lit _ _ ho).2 (lit _ _ ho).1 ho,r⟩
  have hit:items[i]? = some items[i]:=Ub (by omega)
  obtain⟨tp,o,n,ku,ev,ho,hc,hdat,xv⟩:=hp i _ _ hit (Jg bN)
  refine codeAny_builtin hU ?_
  rw[Around.under_plainId dg _]
  unfold Builtin.«dict.update.loop»
  refine wpAny_bind (wpAny_pyNext_list_item (s:={ s with heap:=h,toks:=tk }) hi iK hit fun h1 hi1 Em =>?_)
  rw[ev]
  have Nj:h1.get? tp=some o:=Em.extBut _ _ (lit _ _ ho).1 (kp _ _ (lit _ _ ho).2 (lit _ _ ho).1 ho)
  have BO:h1.DictOf knd d acc:=by
   obtain⟨o,es,ep,ho,r⟩:=hd
   exact⟨o,es,ep,Em.extBut _ _ ne ho,r⟩
  have hT:Shared.TypeIs { s with heap:=h1,toks:=tk } (.ref tp) "tuple":=⟨o,Nj,hc⟩
  refine wpAny_bind (wpAny_holding ?_)
  refine wpAny_bind (wpAny_tryCatch ?_)
  unfold Builtin.Dict.pairItems
  refine wpAny_bind (wpAny_typeOf hT ?_)
  rw[if_pos (by decide)]
  refine wpAny_bind (wpAny_seqItems (s:={ s with heap:=h1,toks:=tk }) Nj hdat (wpAny_pure ?_))
  refine wpAny_holding (wpAny_dictSet_pairs (s:={ s with heap:=h1,toks:=tk }) xv BO (fun h2 hd2 sb2 =>?_) (Ju (show acc.length<=100000 by omega) (by decide)))
  refine wpAny_pure ⟨plainId_quiet dg _,?_⟩
  have:=lu hh hl hn hz hp lit ne fin k (i+1) h2 (tk+1) (stored acc kvs[i].1 kvs[i].2) (by omega) ?_ ?_ (fun b o nd ni x=>sb2.extBut b o nd (Em.extBut b o ni (kp b o nd ni x))) ?_ hd2
  ·exact this
  ·refine Ju ?_ (Wc ha)
   unfold stored
   split
   ·rw[Ja];exact Yv _
   ·rw[Je];exact Jf _
  ·rw[<-hm,Y1 bN]
   rfl
  ·obtain⟨oi,e1,r⟩:=hi1
   exact⟨oi,sb2.extBut _ _ (Ne.symm ne) e1,r⟩
theorem rN {s:Shared}{Q:Value->Shared->Prop}{l:Addr}{items:Array Value}{kvs:List (K×Value)}{ol:Obj}{n:Nat}(hh:A.handled=none)(ho:s.heap.get? l=some ol)(hc:ol.cls = .type "list")(zd:ol.dict=none)(hd:ol.data = .seq items n)(hn:items.size=kvs.length)(hz:kvs.length<=100000)
  (hp:∀(j:Nat) v kv,items[j]? = some v->kvs[j]? = some kv->rS knd s.heap v kv)
  (fin:∀h tk,(∀b o,s.heap.get? b=some o->h.get? b=some o)->h.DictOf knd s.heap.objs.size (merged [] kvs)->Q (.ref s.heap.objs.size) { s with heap:=h,toks:=tk }) :
  wpAny (model prog w) A (call (.type "dict") [.ref l]) Q E s:=by
 refine callType_codes (Q₁:=fun obj s₁=>obj = .ref s.heap.objs.size/\s₁={ s with heap:=s.heap.push { cls := .type "dict",data := .dict #[] } }) F.kt_called_dict (F.kt_typeCall_dict_1 _) F.entry_dict_init (kt_code_dict_new _ ⟨rfl,rfl⟩) ?_
 rintro obj s1 ⟨rfl,rfl⟩
 have new:(s.heap.push { cls := .type "dict",data := .dict #[] }).DictOf knd s.heap.objs.size []:=Heap.DictOf.new s.heap
 have k0:∀b o,s.heap.get? b=some o->(s.heap.push { cls := .type "dict",data := .dict #[] }).get? b=some o:=fun b o x=>Jb _ x
 refine⟨new.typeIs,F.args_dict_init_2 _ _,?_⟩
 unfold Builtin.«dict.__init__» Builtin.Dict.selfAndRest
 refine wpAny_bind (wpAny_bind (wpAny_notOrdered_dict new.typeIs ?_))
 show wpAny _ _ (pure (s.heap.objs.size,[Value.ref l])) _ _ _
 refine wpAny_pure ?_
 show wpAny _ _ (Builtin.Dict.updateFrom "dict.__init__" s.heap.objs.size (.ref l) [] .none) _ _ _
 unfold Builtin.Dict.updateFrom
 have hT:Shared.TypeIs { s with heap:=s.heap.push { cls := .type "dict",data := .dict #[] } } (.ref l) "list":=⟨ol,k0 _ _ ho,hc⟩
 refine wpAny_bind (wpAny_typeOf hT ?_)
 rw[if_pos (by decide)]
 refine wpAny_bind (vF (h:=s.heap.push { cls := .type "dict",data := .dict #[] }) (k0 _ _ ho) hc zd hd hh fun h1 t1 k1 =>?_)
 rw[if_pos (by rfl)]
 have kk:∀b o,s.heap.get? b=some o->h1.get? b=some o:=fun b o x=>k1 b o (k0 b o x)
 refine wpAny_bind (wpAny_rule (wpAny_bind (wpAny_pyIter_list (l:=l) (items:=items) ⟨ol,kk _ _ ho,hc,n,hd⟩ ?_)))
 have hS:s.heap.objs.size<h1.objs.size:=by
  obtain⟨o,es,ep,e,_⟩:=new
  exact Jk (k1 _ _ e)
 refine wpAny_pure ⟨plainId_quiet dg _,?_⟩
 have low:∀b o,s.heap.get? b=some o->b≠h1.objs.size/\b≠s.heap.objs.size:=fun b o x=>⟨Jz (Jk (kk b o x)),Jz (Jk x)⟩
 refine lu (s:=s) (knd:=knd) (A:=A.in1) (it:=h1.objs.size) (g:=s.heap) (kvs:=kvs) hh ⟨ol,ho,hc,n,hd⟩ hn hz hp low (Jz hS) (fun h tk k dd=>⟨rfl,fin h tk (fun b o x=>k b o (low b o x).2 (low b o x).1 x) dd⟩) kvs.length 0 _ _ [] (by omega) (Jf _) rfl (fun b o nd ni x=>Jb _ (kk b o x)) ⟨_,Jo _ rfl,rfl,rfl⟩ ?_
 obtain⟨o,es,ep,e,r⟩:=new
 exact⟨o,es,ep,Jb _ (k1 _ _ e),r⟩
end
section
variable {X:Cx}{pins:List (Addr×Obj)}{σ:St}{H:Hp}{s:Shared}
theorem vN (I:Inv X pins σ H s)(as:List Addr):∀{kvs:List (Key×V)},as.length=kvs.length->(∀(j:Nat) b kv,as[j]? = some b->kvs[j]? = some kv->fw X.K H b [kV kv.1,kv.2]) ->
  ∃vs,KV kvs vs/\∀(j:Nat) b kv,as[j]? = some b->vs[j]? = some kv->rS (aU X.prog X.w) s.heap (.ref b) kv:=by
 induction as with
 | nil=>
  intro kvs hl _
  rw[J7 hl.symm]
  exact⟨[],.nil,fun j b kv h=>by simp at h⟩
 | cons a as ih=>
  intro kvs hl h
  cases kvs with
  | nil=>cases hl
  | cons p kvs=>
  obtain⟨vs,h1,h2⟩:=ih (kvs:=kvs) (by simpa using hl) fun j b kv e1 e2=>h (j+1) b kv e1 e2
  obtain⟨az,r,⟨o,e1,e2,n,e3⟩,_⟩:=I.tuple (h 0 a p rfl rfl)
  obtain⟨ku,vu,rfl,r1,r2⟩:=r.two
  refine⟨(p.1,vu)::vs,.cons ⟨rfl,r2⟩ h1,fun j b kv e4 e5 =>?_⟩
  cases j with
  | zero=>
   cases e4;cases e5
   exact⟨a,o,n,ku,rfl,e1,e2,e3,jV r1⟩
  | succ j=>exact h2 j b kv e4 e5
theorem lB:∀{as:List Addr} {az:List Value},Vals (as.map V.ref) az->az=as.map Value.ref
 | [],_,rv=>by cases rv;rfl
 | a::as,_,rv=>by
  obtain⟨v,r,rfl,rv1,rv2⟩:=rv.hd
  cases rv1
  rw[lB rv2];rfl
theorem EM (K:Jc)(hc:X.calm=true)(hK:X.K=K:=by rfl):bU X (.type "dict") (fun xs H Q=>∃(p:Addr) (as:List Addr) (kvs:List (Key×V)),xs=[.ref p]/\aD K H p (as.map V.ref)/\as.length=kvs.length/\kvs.length<=100000 /\
  (∀(j:Nat) b kv,as[j]? = some b->kvs[j]? = some kv->fw K H b [kV kv.1,kv.2])/\∀d H',dM H d (.dK (dh [] kvs)) H'->Q (.ref d) H'):=by
 subst hK
 intro pins s σ H xs us Q I r h
 obtain⟨p,as,kvs,rfl,hp,hl,hz,ht,q⟩:=h
 obtain⟨u,rfl,ru⟩:=vals1 r
 cases ru
 obtain⟨az,rv,⟨o,n,e1,e2,e3,e4⟩,_⟩:=I.list hp
 obtain⟨vs,kv,pa⟩:=vN I _ hl ht
 have hits:=lB rv
 have kl:=kv.length
 refine rN (knd:=aU X.prog X.w) (kvs:=vs) (I.ok.hd hc) e1 e2 e3 e4 (by rw[hits];simp;omega) (by omega) (fun j v kw h1 h2 =>?_) fun h1 tk k1 dd =>?_
 ·rw[hits] at h1
  simp only[List.getElem?_toArray,Jl] at h1
  cases e:as[j]? with
  | none=>rw[e] at h1;cases h1
  | some b=>rw[e] at h1;cases h1;exact pa j b kw e h2
 ·have ml:=cQ kvs []
  have big:=I.big
  refine⟨.ref s.heap.objs.size,_,I.laid (a:=s.heap.objs.size) (o := .dK (dh [] kvs)) (t':=tk) k1 (Jf _) ⟨Ju (show _<=100000 by simp at ml;omega) (by decide),?_,_,KV.merge kv .nil,dd⟩,rfl,q _ _ ⟨I.aR.fresh (Jf _),rfl⟩⟩
  exact beq_eq_false_iff_ne.mpr (Yk big)
end
section
variable {X:Cx}
theorem zt:yf X "dict.update" (fun x vs H Q=>lU fun(d o:Addr) (kvs more:List (Key×V))=>x = .ref d/\vs=[.ref o]/\d≠o/\H d=some (.dK kvs)/\H o=some (.dK more)/\kvs.length+more.length<=sizeLine/\Q .non (upd H d (.dK (dh kvs more)))):=by
 intro pins s σ H x vs v us Q I rx rv h
 obtain⟨d,o,kvs,more,rfl,rfl,hdo,hd,ho,hl,q⟩:=h
 cases rx
 obtain⟨u,rfl,ru⟩:=vals1 rv
 cases ru
 obtain⟨z1,ns1,vs1,kv1,dd1⟩:=I.aR d _ hd
 obtain⟨z2,ns2,vs2,kv2,dd2⟩:=I.aR o _ ho
 have l1:=kv1.length
 have l2:=kv2.length
 refine call_meetsIn F.slot_dict_update dd1.typeIs F.entry_dict_update (F.args_dict_update_2 _ _) (meets_dict_update (aU X.prog X.w) d o hdo ns2) ⟨vs1,vs2,dd1,dd2,by omega,fun h' dd' _ hs =>?_⟩
 have ml:=cQ more kvs
 have he:∃q,h'.get? d=some q:=let ⟨q,_,_,hq,_⟩:=dd'; ⟨q,hq⟩
 exact⟨.non,_,ic I (by rw[hd];exact True.intro) hs he (nZ (by omega) ns1 (KV.merge kv2 kv1) dd'),rfl,q⟩
end
section
variable {prog:Program}{w:World}{K:Type}[DecidableEq K]{knd:PySem.KeyKind prog w K}
variable {A:Around}{R:Result->Shared->Prop}{I:Addr}{fp wr:List Addr}{G:Array GenState->Array GenState->Prop}{n:Nat}{P:Nat->Value->Prop}{St:Nat->Shared->Prop}
theorem mq (W:WalksS prog w A.in1 I fp wr G n P St)(S:Addr)(hS:S∉fp)(ks:Nat->K)(hv:∀i v,P i v->knd.is (ks i) v=true/\v.scannable=true)(hb:n+1<scanBound):
  ∀(k i:Nat) (s:Shared),i+k=n->St i s->bR knd s.heap S (bS ks i)->(∀s',Moved (S::wr) G s s'->bR knd s'.heap S (bS ks n)->R (.ok (.ret .none)) s') ->
   codeAny (model prog w) A (.builtin "set.update.loop" ⟨[.ref S,.ref I],[]⟩) R s
 | 0,i,s,hk,st,hK,fin=>by
  have e:i=n:=by omega
  subst e
  refine codeAny_builtin F.entry_set_update_loop ?_
  rw[Around.under_plainId F.plain_set_update_loop _]
  refine wpAny_bind (m:=pyNext (.ref I)) (W.done s _ _ st fun s' mv =>?_)
  refine wpAny_pure (fin s' (mv.mono fun b hb=>Jq _ hb) (hK.at' fun o e=>mv.heap S o (fun z=>hS (W.sub _ z)) e))
 | k+1,i,s,hk,st,hK,fin=>by
  refine codeAny_builtin F.entry_set_update_loop ?_
  rw[Around.under_plainId F.plain_set_update_loop _]
  refine wpAny_bind (m:=pyNext (.ref I)) (W.item i s _ _ (by omega) st fun v s' pv aE mv =>?_)
  obtain⟨h1,h2⟩:=hv i v pv
  have Pn:bR knd s'.heap S (bS ks i):=hK.at' fun o e=>mv.heap S o (fun z=>hS (W.sub _ z)) e
  refine wpAny_bind (m:=holding [v] (setAdd S v)) (wpAny_holding ?_)
  unfold setAdd
  refine wpAny_holding (wpAny_bind (knd.pyHash (k:=ks i) h1 ?_))
  have room:(bS ks i).length+1<scanBound:=by have:=iJ ks i;omega
  refine sH (s:={ s' with toks:=s'.toks+1 }) h1 h2 Pn room fun _ h' sb hN =>?_
  refine wpAny_pure ⟨plainId_quiet F.plain_set_update_loop _,?_⟩
  refine mq W S hS ks hv hb k (i+1) _ (by omega) (W.frame _ s' _ _ aE (Yv _) fun b hb o e =>?_) hN fun s2 mv2 hK2 =>?_
  ·rw[sb.2 b (fun z:b=S=>hS (by rw[<-z];exact hb))];exact e
  ·refine fin s2 (Moved.trans W.gtrans ((mv.mono fun b hb=>Jq _ hb).then_heap (Yv _) fun b o nb e =>?_) mv2) hK2
   rw[sb.2 b (fun z:b=S=>nb (by rw[z];exact Js))];exact e
end
section
variable {prog:Program}{w:World}{K:Type}[DecidableEq K]{knd:PySem.KeyKind prog w K}{A:Around}{E:Value->Shared->Prop}{s:Shared}
theorem qd (v:Value){Q₁:Value->Shared->Prop}(h:∀led,(w.params.followText "set-order" = false->led=true)->Q₁ (.ref s.heap.objs.size) { s with heap:=s.heap.push (cq led) }):
  codeAny (model prog w) A (.call (.builtin "set.__new__") ⟨[.type "set",v],[]⟩) (wants Q₁ E) s:=by
 refine codeAny_of_tree (show wpAny _ A.in1 (do checkBuiltinCall "set.__new__" ⟨[.type "set",v],[]⟩;again (.builtin "set.__new__" ⟨[.type "set",v],[]⟩)) _ _ s from ?_)
 refine wpAny_bind (wpAny_of_eq (F.newCall_set_1 v) (wpAny_pure ⟨plainId_quiet F.plain_set_new _,codeAny_builtin F.entry_set_new ?_⟩))
 rw[Around.under_plainId F.plain_set_new _]
 have dA:=sub_set_self
 obtain⟨hp,g,d,tk,os⟩:=s
 unfold Builtin.«set.__new__» Builtin.Frozenset.newClass
 dsimp only
 wp_walk
 refine wpAny_askSetting (wpAny_pure ?_)
 dsimp only
 simp only[newObj]
 exact wpAny_bind (wpAny_alloc (wpAny_pure (wpAny_pure (h _ fun z=>by show(!w.params.followText "set-order")=true;rw[z];rfl))))
theorem vB {l:Addr}{items:Array Value}{led:Bool}{R:Result->Shared->Prop}(wI:w.params.followText "set-order" = false->led=true)(hh:A.handled=none)(hl:s.heap.IsList l items)(ks:Nat->K)(hv:∀(i:Nat) v,items[i]? = some v->knd.is (ks i) v=true/\v.scannable=true)(hb:items.size+1<scanBound)
  (fin:∀(h':Heap) (tk:Nat),bR knd h' s.heap.objs.size (bS ks items.size)->(∀b o,s.heap.get? b=some o->h'.get? b=some o)->R (.ok (.ret .none)) { s with heap:=h',toks:=tk }) :
  codeAny (model prog w) A (.call (.builtin "set.__init__") ⟨[.ref s.heap.objs.size,.ref l],[]⟩) R { s with heap:=s.heap.push (cq led) }:=by
 have hS:(s.heap.push (cq led)).get? s.heap.objs.size=some (cq led):=Jo _ rfl
 have hT:Shared.TypeIs { s with heap:=s.heap.push (cq led) } (.ref s.heap.objs.size) "set":=⟨_,hS,rfl⟩
 refine codeAny_call_builtin F.called_set.init.plain F.entry_set_init ?_
 refine check_set_init_1 hT ?_
 obtain⟨ol,g1,g2,nl,g3⟩:=hl
 obtain⟨c1,c2,c3,c4⟩:=ol
 have g2:c1 = .type "list":=g2
 have g3:c3 = .seq items nl:=g3
 subst g2 g3
 have NY:Shared.TypeIs { s with heap:=s.heap.push (cq led) } (.ref l) "list":=⟨_,Jb _ g1,rfl⟩
 have gl:(s.heap.push (cq led)).get? l=some { cls := .type "list",dict:=c2,data := .seq items nl,slots:=c4 }:=Jb _ g1
 have N1:(s.heap.push (cq led)).IsList l items:=⟨_,gl,rfl,nl,rfl⟩
 have z1:=F.sub_list_set
 have z2:=F.sub_list_frozenset
 have z3:(Value.type "list" == Value.type "dict")=false:=by decide
 unfold Builtin.«set.__init__» noKeywords
 unfold Builtin.Frozenset.updateFrom
 generalize hPI:pyIter=PI
 wp_walk
 subst hPI
 refine wpAny_pyIter_list N1 ?_
 refine wpAny_bind (wpAny_runValue ?_)
 have lS:l<s.heap.objs.size:=Jk g1
 have sz:(s.heap.push (cq led)).objs.size=s.heap.objs.size+1:=Yg ..
 have nI:l≠(s.heap.push (cq led)).objs.size:=by rw[sz];exact Jz (Wl lS)
 have nS:s.heap.objs.size∉[(s.heap.push (cq led)).objs.size,l]:=by
  rw[sz]
  intro z
  rcases J5.mp z with z|z
  ·exact Jz (Nat.lt_succ_self _) z
  ·exact Yk lS (Jd.mp z)
 have W:=Walks.list (prog:=prog) (w:=w) (A:=A.in1.in1) (by simp[hh]) _ l nI items
 refine mq W.toS s.heap.objs.size nS ks hv hb items.size 0 _ (by omega) ?st ?k0 ?fin
 case st=>exact⟨⟨_,Jo _ rfl,rfl,rfl⟩,N1.push _⟩
 case k0=>exact sQ wI (Jb { cls := .type "list_iterator",data := .fields #[.ref l,.int 0 0] } hS)
 case fin=>
  intro s2 mv hK
  obtain⟨h2,g2,d2,t2,o2⟩:=s2
  have q1:g2=s.gens:=mv.gens
  have q2:d2=s.drawn:=mv.drawn
  have q3:o2=s.os:=mv.os
  subst q1 q2 q3
  refine wpAny_pure ?_
  refine wpAny_pure (fin h2 t2 hK fun b o e =>?_)
  have nb:=Jk e
  refine mv.heap b o (fun z =>?_) (Jb _ (Jb _ e))
  rcases J5.mp z with z|z
  ·exact Jz nb z
  ·have z:=Jd.mp z
   rw[z,sz] at nb
   exact Ya _ (Wo nb)
theorem uI {l:Addr}{items:Array Value}{Q:Value->Shared->Prop}(hh:A.handled=none)(hl:s.heap.IsList l items)(ks:Nat->K)(hv:∀(i:Nat) v,items[i]? = some v->knd.is (ks i) v=true/\v.scannable=true)(hb:items.size+1<scanBound)
  (fin:∀(h':Heap) (tk:Nat),bR knd h' s.heap.objs.size (bS ks items.size)->(∀b o,s.heap.get? b=some o->h'.get? b=some o)->Q (.ref s.heap.objs.size) { s with heap:=h',toks:=tk }) :
  wpAny (model prog w) A (call (.type "set") [.ref l]) Q E s:=by
 have a1:=F.called_set.made
 have a2:=F.called_set.sub
 have a3:=F.called_set.notType
 have a4:=F.called_set.canCreate
 have a5:=F.typeCall_set_1 (.ref l)
 obtain⟨c,tl,a6⟩:=F.called_set.mro
 refine wpAny_call (codeAny_of_tree ?_)
 refine wpAny_pure ⟨Code.quiet_builtin _ (by decide +kernel),codeAny_builtin F.entry_type_call ?_⟩
 rw[Around.under_plain (weight_type_call_type "set" [.ref l] []) rfl]
 repeat (any_goals (first|assumption|wp_step))
 have mk:=qd (prog:=prog) (w:=w) (A:=A.in1) (s:=s) (.ref l) (E:=E) (Q₁:=fun obj s1=>∃led,(w.params.followText "set-order" = false->led=true)/\obj = .ref s.heap.objs.size/\s1={ s with heap:=s.heap.push (cq led) }) fun led wI=>⟨led,wI,rfl,rfl⟩
 refine codeAny_mono mk fun r s1 hr =>?_
 cases r with
 | error e=>exact hr
 | ok fl=>
  cases fl with
  | ret obj=>
   obtain⟨led,wI,rfl,rfl⟩:=hr
   have b1:Shared.TypeIs { s with heap:=s.heap.push (cq led) } (.ref s.heap.objs.size) "set":=⟨_,Jo _ rfl,rfl⟩
   have b2:=F.called_set.init.lookup
   have b3:=F.called_set.init.bind (.ref s.heap.objs.size)
   repeat (any_goals (first|assumption|wp_step))
   refine vB wI (A:=A.in1) (by simp[hh]) hl ks hv hb fun h' tk hK old =>?_
   refine wpAny_pure ?_
   exact wpAny_pure (fin h' tk hK old)
  | _=>exact hr.elim
end
section
variable {X:Cx}
theorem uP (hc:X.calm=true):bU X (.type "set") (fun xs H Q=>∃(p:Addr) (zs:List Str),xs=[.ref p]/\aD X.K H p (zs.map V.str)/\zs.length<=4000/\∀(a:Addr) (H':Hp),dM H a (xZ (AR X.prog X.w) a (qy zs)) H'->Q (.ref a) H'):=by
 intro pins s σ H xs us Q I r h
 obtain⟨p,zs,rfl,hq,hl,q⟩:=h
 obtain⟨u,rfl,ru⟩:=vals1 r
 cases ru
 obtain⟨az,rv,pl,hz⟩:=I.list hq
 have hn:az.length=zs.length:=by have:=rv.length;rw[Ja] at this;exact this.symm
 refine uI (knd:=strKind X.prog X.w) (I.ok.hd hc) pl.isList (fun i=>zs.getD i Str.empty) (fun i v e =>?_) (by rw[Jr,hn];unfold scanBound;omega) fun h' tk hK old =>?_
 ·obtain⟨y,h1,h2⟩:=ik rv e
  rw[Jl] at h1
  cases e1:zs[i]? with
  | none=>rw[e1] at h1;cases h1
  | some z=>
   rw[e1] at h1;cases h1
   obtain⟨t,rfl⟩:=h2
   have:zs.getD i Str.empty=z:=by simp[List.getD,e1]
   exact⟨by rw[this];exact strKind_is _ _ _ _,rfl⟩
 ·have en:az.toArray.size=zs.length:=by rw[Jr,hn]
  rw[en] at hK
  exact⟨.ref _,_,I.laid (o:=xZ (AR X.prog X.w) s.heap.objs.size (qy zs)) (t':=tk) old (Jf _) (zF hK),rfl,q _ _ ⟨I.aR.fresh (Jf _),rfl⟩⟩
theorem pe:∀{vs:List Value},(∀v∈vs,∃k t,v = .str k t)->∃ns,StrsAre vs ns/\∀k,k∈ns ↔ ∃t,Value.str k t∈vs
 | [],_=>⟨[],.nil,fun k=>⟨(fun h=>nomatch h),(fun⟨_,h⟩=>nomatch h)⟩⟩
 | v::vs,h=>by
  obtain⟨ns,h1,h2⟩:=pe (vs:=vs) fun u hu=>h u (Jq _ hu)
  obtain⟨k,t,rfl⟩:=h v Js
  refine⟨k::ns,.cons k t h1,fun j=>⟨fun hj =>?_,fun⟨u,hu⟩=>?_⟩⟩
  ·rcases J5.mp hj with rfl|hj
   ·exact⟨t,Js⟩
   ·obtain⟨u,hu⟩:=(h2 j).mp hj
    exact⟨u,Jq _ hu⟩
  ·rcases J5.mp hu with e|hu
   ·cases e;exact Js
   ·exact Jq _ ((h2 j).mpr ⟨u,hu⟩)
theorem wX:∀{vs:List Value} {ns:List Str},StrsAre vs ns->vs.length=ns.length:=by
 intro vs ns h
 induction h with
 | nil=>rfl
 | cons _ _ _ ih=>rw[Jt,Jt,ih]
theorem rg (hc:X.calm=true):bU X (.builtin "sorted") (fun xs H Q=>∃(a:Addr) (D:List Str),xs=[.ref a]/\H a=some (xZ (AR X.prog X.w) a D)/\D.Nodup/\D.length<64 /\
  ∀(ms:List Str) (q:Addr) (H':Hp),ms.Perm D->dM H q (.lst (ms.map V.str)) H'->Q (.ref q) H'):=by
 intro pins s σ H xs us Q I r h
 obtain⟨a,D,rfl,ha,nd,hl,q⟩:=h
 obtain⟨u,rfl,ru⟩:=vals1 r
 cases ru
 obtain⟨HK,o',es',ep',t',ho',hd',g',l'⟩:=(show bq X.prog X.w H s.heap a (xZ (AR X.prog X.w) a D) from I.aR a _ ha).1
 obtain⟨o,es,ep,t,ho,ex,hd,el,mem,bnd,fit,len⟩:=id HK
 obtain⟨g,l⟩:cM t/\(X.w.params.followText "set-order" = false->t.led=true):=by
  rw[ho] at ho';cases ho'
  rw[hd] at hd';cases hd'
  exact⟨g',l'⟩
 refine Calls.call_function_entry kind_sorted plain_sorted entry_sorted (args_sorted1 _) ?_
 unfold Builtin.«sorted»
 refine wpAny_bind (m:=checkCount "sorted" 1 1 _) (wpAny_pure ?_)
 refine wpAny_bind (qr (A:=X.A.in1) (show X.A.in1.handled=none from I.ok.hd hc) ho ex hd fit g l (fits_of_scanBound bnd) fun h1 tk d vals hle k1 pm =>?_)
 have hv:∀v∈vals,∃k t,v = .str k t:=fun v hv=>by
  obtain⟨e,he,rfl⟩:=J0.mp (pm.mem_iff.mp hv)
  obtain⟨⟨k,hk,_⟩,_⟩:=el e he
  obtain⟨t,ht⟩:=Value.isStrOf_shape hk
  exact⟨k,t,ht⟩
 obtain⟨ns,hI,tW⟩:=pe hv
 have hlen:vals.length=D.length:=by rw[pm.length_eq,Ja,Jw,len]
 have Rv:=wX hI
 have pD:U4 ns D:=jW nd (fun k hk=>by
  obtain⟨e,he,h2⟩:=(mem k).mp (decide_eq_true hk)
  obtain⟨t,ht⟩:=Value.isStrOf_shape h2
  exact(tW k).mpr ⟨t,by rw[<-ht];exact pm.mem_iff.mpr (J0.mpr ⟨e,he,rfl⟩)⟩) (by omega)
 refine wpAny_bind (wpAny_newList ?_ (Ju (show vals.length<=64 by omega) (by decide)))
 have ob:(h1.push (seqObj "list" vals.toArray 0)).get? h1.objs.size=some (seqObj "list" vals.toArray 0):=Jo _ rfl
 refine wpAny_bind (wpAny_holding (wpAny_call_entry slot_list_sort ⟨_,ob,rfl⟩ entry_list_sort (list_sort_treeK PyProof.Rows.strKind_oneLt ob hI.keysOf (fun v₁ v₂ rest e=>keyKind_strs (by rw[<-e];exact hI)) (by omega) fun aE hp hs=>⟨_,rfl,wpAny_pure ⟨_,rfl,?_⟩⟩) (args_list_sort _)))
 obtain⟨ms,a1,a2,a3⟩:=sorted_out_str hI hp hs
 generalize (arrOf aE).map (·.2)=out at a1 ⊢
 obtain⟨e,he⟩:=sortedHeap_at (out:=out) ob
 have hm:ms.length=D.length:=(a2.trans pD).length_eq
 have hr:=oH a1
 have kk:∀b o,s.heap.get? b=some o->(sortedHeap (h1.push (seqObj "list" vals.toArray 0)) h1.objs.size vals out).get? b=some o:=fun b Dx x=>by
  have x1:=k1 b Dx x
  rw[sortedHeap_old (Jz (Jk x1)) (by rw[size_push'];exact Wl (Jk x1)),Heap.get?_push_ne _ _ _ (Jz (Jk x1))]
  exact x1
 refine⟨.ref h1.objs.size,_,(I.laid (a:=h1.objs.size) (o := .lst (ms.map V.str)) (t':=tk) kk hle ⟨?_,out.toList,e,hr,?_⟩).drawn d,rfl,q ms _ _ (a2.trans pD) ⟨I.aR.fresh hle,rfl⟩⟩
 ·rw[Ja];exact Ju (show ms.length<=64 by omega) (by decide)
 ·simpa [seqObj] using he
theorem Aj:yf X "list.remove" (fun x vs H Q=>∃(l:Addr) (xs:List Str) (y:Str),x = .ref l/\vs=[.str y]/\H l=some (.lst (xs.map V.str))/\y∈xs/\∀H',jT H l (.lst ((xs.erase y).map V.str)) H'->Q .non H'):=by
 intro pins s σ H x vs v us Q I rx rv h
 obtain⟨l,xs,y,rfl,rfl,hH,hy,q⟩:=h
 cases rx
 obtain⟨u,rfl,ru⟩:=vals1 rv
 obtain⟨t,rfl⟩:=ru
 obtain⟨z,az,n,r,hl,e⟩:=I.l8 hH
 have hlen:=r.length
 rw[Ja] at hlen
 obtain⟨j,hj⟩:∃j,j=xs.idxOf y:=⟨_,rfl⟩
 have jl:j<xs.length:=by rw[hj];exact List.idxOf_lt_length_iff.mpr hy
 have jy:xs[j]=y:=by simp only[hj];exact List.getElem_idxOf (by rw[<-hj];exact jl)
 have jn:∀m (hm:m<xs.length),m<j->xs[m]≠y:=fun m hm hmj w=>by
  have:m<List.findIdx (· == y) xs:=by rw[hj] at hmj;exact hmj
  have:=List.not_of_lt_findIdx this
  rw[w] at this
  simp at this
 let ev:Value->Bool:=fun u=>match u with | .str a _=>a==y|_=>false
 have at':∀m (hm:m<az.length),∃t',az[m] = .str (xs[m]'(by omega)) t':=fun m hm=>by
  obtain⟨a,h1,h2⟩:=ik r (i:=m) (v:=az[m]) (by simp[hm])
  rw[Jl,Jg (by omega)] at h1
  cases h1
  exact h2
 refine call_meets F.slot_list_remove ⟨_,e,rfl⟩ F.entry_list_remove (F.args_list_remove_2 _ _) (MeetsSeq.list_remove l az.toArray n (.str y t) ev (fun w hw =>?_) j (by rw[Jr];omega) ?_ ?_ (by rw[Jr];omega)) ⟨e,?_⟩
 ·have hw:w∈az:=by simpa using hw
  obtain⟨i,hi,ew⟩:=Yb.mp hw
  obtain⟨t',e'⟩:=at' i hi
  rw[<-ew,e']
  have z:=SeqRoads2.EqGives.str (xs[i]'(by omega)) y t' t
  rw[show((xs[i]'(by omega)).cps.toList==y.cps.toList)=((xs[i]'(by omega))==y) from by rw[Bool.eq_iff_iff,beq_iff_eq,beq_iff_eq,Array.toList_inj];exact⟨fun q=>by generalize xs[i]'(by omega)=x at q ⊢;cases x;cases y;simp_all,fun q=>by rw[q]⟩] at z
  exact z
 ·obtain⟨t',e'⟩:=at' j (by omega)
  show ev az[j]=true
  rw[e']
  show(xs[j]==y)=true
  rw[jy];simp
 ·intro m hm hmj
  have uN:m<az.length:=by rw[Jr] at hm;exact hm
  obtain⟨t',e'⟩:=at' m uN
  show ev az[m]=false
  rw[e']
  show(xs[m]==y)=false
  simpa using jn m (by omega) hmj
 ·have ex:(xs.map V.str).eraseIdx j=(xs.erase y).map V.str:=by
   rw[List.erase_eq_eraseIdx_of_idxOf (i:=j) hj.symm,Ym,Ym,Jh,List.map_take,List.map_drop]
  refine⟨.non,_,I.vb (ys:=(xs.map V.str).eraseIdx j) (its':=az.eraseIdx j) hH e ?_ (kK j r) (by rw[List.length_eraseIdx];split<;>omega),rfl,?_⟩
  ·simp[Array.eraseIdxIfInBounds,show j<az.length by omega]
  ·exact q _ ⟨by rw[ex]⟩
end
def EO (T:Addr)(H:Hp):Prop:=H T=some (.tbl #[])/\∀b,b≠T->H b=none∨bO fun o xs=>H b=some (.frz o (.lst xs))
section
variable {P:Program}{w:World}{K:Jc}{mg mb:Str->Option Value}{CX:uY}{k:Nat}{fa a T:Addr}{fd:FuncData}{x:Str}{sp:Sp}{s₁:Shared}{vs:List Value}{ns:List Int}
theorem vM (KX:K.In s₁.heap)(tW:s₁.heap.Ns mainGlobals mg)(hb:s₁.heap.Ns builtinsNs mb)(Q7:∀x:Str,x ≠ "__name__" -> mb x=bootBuiltins x)(M5:s₁.heap.NoLimit)(hg:s₁.gens = #[])
  (ha:s₁.heap.get? a=some { cls := .type "list",data := .seq vs.toArray }) (hi:IntsAre vs ns) (hl:ns.length<=sizeLine) (hr:dS k callerA) (hT:s₁.heap.get? T=some (tabObj #[])) (cT:isCodeTable s₁.heap T) (kT:K.lookup T=none)
  (vQ:∃(bm:Addr) (ob:Obj),mg "__builtins__" = some (.ref bm)/\bm≠builtinsNs/\s₁.heap.get? bm=some ob/\ob.cls = .type "module" /\ ob.dict=some builtinsNs/\ob.data = .plain)
  (F:∀base:Heap,K.In base->base.Ns mainGlobals mg->base.BuiltinsAt mg T->bI P w K mg base CX k fa fd [x] sp) (FK:∀(s:Shared) (u:Value),BindsTo s fd ⟨[u],[]⟩ [(x,u)])
  (rK:∀H:Hp,H T=some (.tbl #[])->aD K H a (ns.map V.int)->sp [.ref a] H (fun v _=>v = .bl true) fun _ _ _=>False)
  (Mi:∀H e s',CX [] H s₁ (fun _ _ _=>False) e s'->False) :
  codeAny (model P w) callerA (.call (.ref fa) ⟨[.ref a],[]⟩) (fun r s'=>r = .ok (.ret (.bool true))/\OldK s₁.heap s'.heap/\s'.os=s₁.os/\AllBare s'.gens) s₁:=by
 have rv:=uK hi
 have aT:a≠T:=fun z=>by rw[z,hT] at ha;cases ha
 obtain⟨H,hO,hS,aR,hA⟩:∃H:Hp,EO T H/\aD K H a (ns.map V.int)/\fZ P w H s₁.heap/\∀b,H b≠none->b=T∨(b=a/\K.lookup a=none):=by
  have OC:∀{H:Hp},bq P w H s₁.heap T (.tbl #[]):=hT
  cases hk:K.lookup a with
  | some o=>
   have e:=KX a o hk
   rw[ha] at e
   cases e
   refine⟨upd (fun _=>none) T (.tbl #[]),⟨ar,fun b hb =>.inl (aj hb)⟩,.inr ⟨_,vs.toArray,_,hk,rfl,rfl,rfl,by rw[Jr,hi.length];exact hl,by simpa using rv⟩,fun b o e =>?_,fun b hb =>?_⟩
   ·by_cases hb:b=T
    ·rw[hb,ar] at e;cases e;rw[hb];exact OC
    ·rw[aj hb] at e;cases e
   ·by_cases qK:b=T
    ·exact .inl qK
    ·exact absurd (aj qK) hb
  | none=>
   refine⟨upd (upd (fun _=>none) a (.frz { cls := .type "list",data := .seq vs.toArray } (.lst (ns.map V.int)))) T (.tbl #[]),⟨ar,fun b hb =>?_⟩,.inl (.inr ⟨_,by rw[aj aT];exact ar⟩),fun b o e =>?_,fun b hb =>?_⟩
   ·rw[aj hb]
    by_cases qK:b=a
    ·rw[qK,ar];exact .inr ⟨_,_,rfl⟩
    ·exact .inl (aj qK)
   ·by_cases hb:b=T
    ·rw[hb,ar] at e;cases e;rw[hb];exact OC
    ·rw[aj hb] at e
     by_cases qK:b=a
     ·rw[qK,ar] at e;cases e;rw[qK]
      exact⟨ha,by rw[Ja];exact hl,vs,_,rv,ha⟩
     ·rw[aj qK] at e;cases e
   ·by_cases xo:b=T
    ·exact .inl xo
    ·rw[aj xo] at hb
     by_cases qK:b=a
     ·exact .inr ⟨qK,rfl⟩
     ·exact absurd (aj qK) hb
 have tell:∀{b:Addr} {o:Obj},s₁.heap.get? b=some o->(b≠T)->(b=a->K.lookup a≠none)->H b=none:=fun{b o} e h1 h2=>by
  cases q:H b with
  | none=>rfl
  | some u=>
   rcases hA b (by rw[q];exact fun z=>nomatch z) with z|⟨z,z'⟩
   ·exact absurd z h1
   ·exact absurd z' (h2 z)
 have HQ:∀{b:Addr} {m:Str->Option Value},s₁.heap.Ns b m->(nG s₁.heap H).Ns b m:=fun{b m} ⟨o,es,ep,e,d,r⟩=>by
  refine⟨o,es,ep,kU e (tell e (fun z =>?_) fun z =>?_),d,r⟩
  ·rw[z,hT] at e;cases e;cases d
  ·rw[z,ha] at e;cases e;cases d
 have Oz:K.In (nG s₁.heap H):=fun b o e=>kU (KX b o e) (tell (KX b o e) (fun z=>by rw[z,kT] at e;cases e) fun z h=>by rw[z,h] at e;cases e)
 have hM:Mod K mg (nG s₁.heap H):=⟨Oz,HQ tW,⟨mb,HQ hb,Q7⟩,let ⟨mc,h1,h2⟩:=M5; ⟨mc,HQ h1,h2⟩⟩
 have Q1:(nG s₁.heap H).BuiltinsAt mg T:=by
  obtain⟨bm,ob,b1,b2,b3,b4,b5,b6⟩:=vQ
  have bT:bm≠T:=fun z=>by rw[z,hT] at b3;cases b3;cases b4
  have bG:bm≠mainGlobals:=fun z=>by
   obtain⟨o,es,ep,e,hd,_⟩:=tW
   rw[z,e] at b3;cases b3;rw[hd] at b6;cases b6
  exact⟨bm,ob,b1,b2,bG,bT,kU b3 (tell b3 bT fun z=>by rw[z,ha] at b3;cases b3;cases b6),b4,b5,b6⟩
 have e0:rM P w K mg (nG s₁.heap H) callerA [] s₁ H:=⟨rfl,hM,fun b o e=>AH e,Yy (vC _ _),trivial,(fun b hb=>nomatch hb),aR,.of_eq hg⟩
 refine codeAny_mono ((F _ Oz (HQ tW) Q1).run callerA [] s₁ H ⟨[.ref a],[]⟩ [.ref a] [.ref a] _ _ hr e0 (FK s₁ (.ref a)) (.cons rfl .nil) (rK H hO.1 hS)) fun r s' h =>?_
 cases r with
 | error e=>exact(Mi H e s' h).elim
 | ok fl=>
  cases fl with
  | next=>exact False.elim h
  | brk=>exact False.elim h
  | cont=>exact False.elim h
  | ret u=>
   obtain⟨v,H',os,bare,un,zX,r',q⟩:=h
   have q':v = .bl true:=q
   subst q'
   obtain rfl:u=Value.bool true:=r'
   have old:∀b o,s₁.heap.get? b=some o->b≠T->s'.heap.get? b=some o:=fun b o e hb=>by
    cases q:H b with
    | none=>exact un.keep b o e q (fun z=>nomatch z) (fun z=>nomatch z)
    | some u=>
     rcases hO.2 b hb with z|⟨ob,xs,z⟩
     ·rw[q] at z;cases z
     ·obtain⟨e1,_⟩:=aR b _ z
      obtain⟨e2,_⟩:=zX b _ (un.fB b ob _ z)
      rw[e] at e1;cases e1
      exact e2
   obtain⟨more,em⟩:=un.gM T _ hO.1
   have HY:s'.heap.get? T=some (tabObj (#[]++more)):=zX T _ em
   refine⟨rfl,⟨fun b o e =>?_,fun b o e =>?_⟩,os,bare⟩
   ·by_cases hb:b=T
    ·subst hb
     rw[hT] at e;cases e
     exact .inr (.inl ⟨cT,rfl,#[],more,rfl,HY⟩)
    ·exact .inl (old b o e hb)
   ·by_cases hb:b=T
    ·rw[hb];exact⟨_,HY⟩
    ·exact⟨o,old b o e hb⟩
end
theorem cY.P9 {P:Program}{w:World}{K:Jc}{mg:Str->Option Value}{base:Heap}{x qual:Str}{st:Stmt}{f:Addr}{fd:FuncData}{N ps:List Str}{k:Nat}{sp:Sp}(F:cY K x qual st f fd)(S:aN N ps (aB st))(len:∀vs H Q E,sp vs H Q E->vs.length=ps.length)
  (kN:∀(A:Around) (outer:List Env) (s:Shared) (H:Hp) (vs:List V) (Q:VK) (E:XK),dS k (A.deeper (envOfC qual (aB st) s.heap.objs.size f fd.code))->sp vs H Q E ->
   ∃t,tK (om fY P w K mg base N qual (aB st) f fd.code A outer s H E).CQ (dG st) t/\t { nx:=fun _ H'=>Q .non H',rt:=Q } (start N vs) H):bI P w K mg base fY (k+1) f fd ps sp:=by
 obtain⟨oc,od,kV,doc,pm,an,d9,ct,zx,rfl,lk,qx⟩:=F.ex
 refine BF lk qx S len fun A outer s H vs Q E hr rK =>?_
 obtain⟨t,h,q⟩:=kN A outer s H vs Q E hr rK
 exact⟨t,h.CQ,q⟩
theorem xC {l:PySem.W.OpenLaw}{n k:Nat}{q:Program}{loose:List Str}{XP:(Str->Option Value)->Heap->Prop}{YP:World->Heap->Prop}{d:DefRec}{K:Params->Jc}{CX:World->uY}{sp:World->Sp}{x:Str}{T:Addr}
  (hn:l.most=some n) (De:n<=sizeLine) (Hv:d.params.defaults=[]) (hr:dS k callerA)
  (hY:∀(w:World) (h:Heap),YP w h->(K w.params).In h) (Ly:∀(w:World) (h:Heap),YP w h->h.get? T=some (tabObj #[])) (hc:∀w:World,∃c o vs,(K w.params).lookup c=some o/\o.cls = .type "code" /\ o.data = .fields vs/\vs[11]? = some (.ref T)) (kT:∀w:World,(K w.params).lookup T=none)
  (F:∀(w:World) (mg:Str->Option Value) (fa:Addr) (h:Heap),(K w.params).In h->h.Ns mainGlobals mg->mg d.name=some (.ref fa) ->
   ∃fd:FuncData,(∀(s:Shared) (u:Value),BindsTo s fd ⟨[u],[]⟩ [(x,u)]) /\
    ∀base:Heap,(K w.params).In base->base.Ns mainGlobals mg->base.BuiltinsAt mg T->bI l.prog w (K w.params) mg base (CX w) k fa fd [x] (sp w))
  (rK:∀(w:World) (H:Hp) (a:Addr) (ns:List Int),ns.length<=n->H T=some (.tbl #[])->aD (K w.params) H a (ns.map V.int)->sp w [.ref a] H (fun v _=>v = .bl true) fun _ _ _=>False)
  (Mi:∀(w:World) (H:Hp) (s:Shared) (e:Value) (s':Shared),CX w [] H s (fun _ _ _=>False) e s'->False) :
  PySem.W.WalkO q loose XP YP l.row.toRowW d [] (fun f vs=>PySem.call f vs):=by
 refine Att.qo hn Hv fun w s₀ s₁ mg mb fa o pm cd doc a vs ns G Y ho hd qx hmg hobj hints hlen hg =>?_
 have KX:=hY w _ Y
 obtain⟨fd,hb,hF⟩:=F w mg fa _ KX G.T.g hmg
 obtain⟨c,oc,vc,h1,h2,h3,h4⟩:=hc w
 exact vM KX G.T.g G.T.b G.T.builtins G.T.nolimit hg hobj hints (Ju hlen De) hr (Ly w _ Y) ⟨c,oc,vc,KX _ _ h1,h2,h3,h4⟩ (kT w) G.T.bmain hF hb (fun H h1 h2=>rK w H a ns hlen h1 h2) fun H e s'=>Mi w H s₁ e s'
def oX (H:Hp)(q:Str)(c:Addr):Prop:=fq fun(o:Obj) (vs:Array Value) (t:Tok)=>H c=some (.frz o (.own 0))/\o.data = .fields vs/\vs[1]? = some (.str q t)
def Tab (H:Hp)(pos:Pos)(q:Str)(ps:Array Value):Prop:=ps = #[]∨∃c,ps = #[rawInt pos.line,rawInt pos.col,.ref c]/\oX H q c
def tD (H:Hp)(q:Str)(args:Arguments)(body:Expr)(scope:Scope)(f:Addr):Prop:=fq fun(pm:Value) (c:Addr) (ct:Value)=>H f=some (.frz (kla_obj (Str.ofString "<lambda>") q args body scope [] pm c ct) (.own 0))/\oX H q c
def KC (T:Addr)(pos:Pos)(q:Str)(args:Arguments)(body:Expr)(scope:Scope):TE:=fun _ H Q=>∃ps,H T=some (.tbl ps)/\Tab H pos q ps /\
 ∀(f:Addr) (pH:Array Value) (H':Hp),H f=none->H' T=some (.tbl pH)->Tab H' pos q pH->tD H' q args body scope f->(∀b o,b≠T->H b=some o->H' b=some o)->Q (.ref f) H'
theorem CB {X:Cx}{args:Arguments}{body:Expr}{scope:Scope}{pos:Pos}{c T:Addr}(hc:X.env.code = .ref c)(qx:CodeHd X.base c T)(Cy:X.base.BuiltinsAt X.mg T)(hT:mainGlobals≠T)
  (hd:defaultsOf args X.env=([],[]):=by rfl) (OL:closureFor scope X.env=pure []:=by rfl):PE X (.Lambda args body scope pos) (KC T pos (X.env.qual++Str.ofString "<lambda>") args body scope):=by
 intro pins s σ H Q I h
 obtain⟨ps,Ah,tab,q⟩:=h
 have JO:s.heap.get? T=some (tabObj ps):=I.aR T _ Ah
 have FW:CodeHd s.heap c T:=by
  obtain⟨o,vs,file,tf,flags,tg,inF,text,tt,e,r⟩:=qx
  exact⟨o,vs,file,tf,flags,tg,inF,text,tt,I.bk _ _ e,r⟩
 have E3:s.heap.BuiltinsAt X.mg T:=by
  obtain⟨bm,o,h1,h2,h3,h4,e,r⟩:=Cy
  exact⟨bm,o,h1,h2,h3,h4,I.bk _ _ e,r⟩
 have tW:s.heap.Ns mainGlobals X.mg:=by
  obtain⟨o,es,ep,e,r⟩:=I.mod.glob
  exact⟨o,es,ep,I.bk _ _ e,r⟩
 refine kla_eval hd ?_
 rcases tab with rfl|⟨c',rfl,jO⟩
 ·refine kla_makeFunction OL I.ok.glob tW hc FW JO trivial rfl hT E3 fun c' ctv h' tk ext yh hc2 cr HY =>?_
  obtain⟨c0,oc,vs,t,ec,e1,e2,e3⟩:=cr
  cases ec
  have lt:T<s.heap.objs.size:=Jk JO
  have nc:H c'=none:=I.aR.fresh yh
  have zf:s.heap.objs.size<=h'.objs.size:=Uy (Ue yh hc2)
  have nf:H h'.objs.size=none:=I.aR.fresh zf
  have Tc:T≠c':=Jz (Jv lt yh)
  have Tf:T≠h'.objs.size:=Jz (Jv lt zf)
  have cf:c'≠h'.objs.size:=Jz hc2
  obtain⟨fo,hfo⟩:∃fo,fo=kla_obj (Str.ofString "<lambda>") (X.env.qual++Str.ofString "<lambda>") args body scope [] ((X.mg (Str.ofString "__name__")).getD Value.none) c' ctv:=⟨_,rfl⟩
  rw[<-hfo]
  have g2:∀b o,b≠T->s.heap.get? b=some o->(h'.push fo).get? b=some o:=fun b o hb e=>Jb _ (ext b o hb e)
  have gT:=Jb fo HY
  have gc:=Jb fo e1
  have gf:(h'.push fo).get? h'.objs.size=some fo:=Jo _ (by rw[hfo];rfl)
  obtain⟨H',hH'⟩:∃H',H'=upd (upd (upd H T (.tbl (#[] ++ #[rawInt pos.line,rawInt pos.col,.ref c']))) c' (.frz oc (.own 0))) h'.objs.size (.frz fo (.own 0)):=⟨_,rfl⟩
  have HT:H' T=some (.tbl (#[] ++ #[rawInt pos.line,rawInt pos.col,.ref c'])):=by rw[hH',aj Tf,aj Tc];exact ar
  have Hc:H' c'=some (.frz oc (.own 0)):=by rw[hH',aj cf];exact ar
  have Hf:H' h'.objs.size=some (.frz fo (.own 0)):=by rw[hH'];exact ar
  have Ho:∀b,b≠T->b≠c'->b≠h'.objs.size->H' b=H b:=fun b h1 h2 h3=>by rw[hH',aj h3,aj h2,aj h1]
  have Hk:∀b o,b≠T->H b=some o->H' b=some o:=fun b o h1 e=>(Ho b h1 (fun z=>by rw[z,nc] at e;cases e) fun z=>by rw[z,nf] at e;cases e).trans e
  have nT:∀{b:Addr} {o:HO},H b=some o->(∀ps,o ≠ .tbl ps)->b≠T:=fun e h z=>by rw[z,Ah] at e;cases e;exact h _ rfl
  have inv:Inv X pins σ H' { s with heap:=h'.push fo,toks:=tk }:=by
   refine I.un (h':=h'.push fo) (t':=tk) ⟨fun b o e n _ _=>g2 b o (fun z=>by rw[z,Ah] at n;cases n) e,fun b o e n _ _=>⟨o.slots,g2 b o (fun z=>by rw[z,Ah] at n;cases n) e⟩,fun b o e n _ =>?_,fun b o e _ =>?_,fun b xs e=>Hk b _ (nT e fun _ z=>nomatch z) e,fun b o u e=>Hk b _ (nT e fun _ z=>nomatch z) e,fun b ps e =>?_⟩ fun b o e =>?_
   ·have lb:=Jk e
    rw[Ho b (fun z=>by rw[z,Ah] at n;cases n) (Jz (Jv lb yh)) (Jz (Jv lb zf))]
    exact n
   ·by_cases hb:b=T
    ·rw[hb];exact⟨_,gT⟩
    ·exact⟨o,g2 b o hb e⟩
   ·by_cases hb:b=T
    ·rw[hb,Ah] at e;cases e
     exact⟨_,hb▸HT⟩
    ·exact⟨#[],by rw[Hk b _ hb e];simp⟩
   ·by_cases h1:b=T
    ·rw[h1,HT] at e;cases e;rw[h1];exact gT
    by_cases h2:b=c'
    ·rw[h2,Hc] at e;cases e;rw[h2];exact⟨gc,_,gc⟩
    by_cases h3:b=h'.objs.size
    ·rw[h3,Hf] at e;cases e;rw[h3];exact⟨gf,_,gf⟩
    rw[Ho b h1 h2 h3] at e
    refine(I.aR b o e).kM (fun a u ha q=>g2 a u ?_ q) (fun a ha=>Hk a _ (nT ha fun _ z=>nomatch z) ha) fun a xs ha=>Hk a _ (nT ha fun _ z=>nomatch z) ha
    rcases ha with rfl|ha
    ·exact h1
    ·exact nT ha fun _ z=>nomatch z
  have cd:oX H' (X.env.qual++Str.ofString "<lambda>") c':=⟨oc,vs,t,Hc,e2,e3⟩
  exact⟨.ref h'.objs.size,H',inv,rfl,q _ _ H' nf HT (.inr ⟨c',rfl,cd⟩) ⟨_,c',ctv,hfo▸Hf,cd⟩ Hk⟩
 ·refine kla_makeFunctionHit OL I.ok.glob tW hc FW JO ?_ (cv := .ref c') ?_ E3 fun ctv h' tk k hz =>?_
  ·exact trivial
  ·exact codeAmong_snoc (pos:=pos) (c := .ref c') [] trivial rfl
  have nf:H h'.objs.size=none:=I.aR.fresh hz
  obtain⟨fo,hfo⟩:∃fo,fo=kla_obj (Str.ofString "<lambda>") (X.env.qual++Str.ofString "<lambda>") args body scope [] ((X.mg (Str.ofString "__name__")).getD Value.none) c' ctv:=⟨_,rfl⟩
  have gf:(h'.push fo).get? h'.objs.size=some fo:=Jo _ (by rw[hfo];rfl)
  have Hk:∀b o,H b=some o->upd H h'.objs.size (.frz fo (.own 0)) b=some o:=fun b o e=>by rw[aj (ai e nf)];exact e
  have cd:oX (upd H h'.objs.size (.frz fo (.own 0))) (X.env.qual++Str.ofString "<lambda>") c':=by
   obtain⟨o,vs,t,h1,h2⟩:=jO
   exact⟨o,vs,t,Hk _ _ h1,h2⟩
  have inv:=I.laid (a:=h'.objs.size) (o := .frz fo (.own 0)) (h':=h'.push fo) (t':=tk) (fun b u e=>Jb _ (k b u e)) hz ⟨gf,_,gf⟩
  rw[hfo] at inv
  exact⟨.ref h'.objs.size,_,inv,rfl,q _ _ _ nf (by rw[<-hfo];exact Hk _ _ Ah) (.inr ⟨c',rfl,by rw[<-hfo];exact cd⟩) ⟨_,c',ctv,by rw[<-hfo];exact hfo▸ar,by rw[<-hfo];exact cd⟩ fun b o _ e=>by rw[<-hfo];exact Hk b o e⟩
theorem A4 {X:Cx}{k:Nat}{f:Addr}{q:Str}{args:Arguments}{body:Expr}{scope:Scope}{N ps:List Str}{t:TE}(S:aN N ps scope)(hp:ps.length=1)(hr:dS (k+3) X.A)
  (hb:∀(pm:Value) (c:Addr) (ct u:Value),bindArgs (kla_fn (Str.ofString "<lambda>") q args body scope [] pm (.ref c) ct) ⟨[u],[]⟩=pure (ps.zip [u]))
  (kN:∀(c:Addr) (A:Around) (outer:List Env) (s:Shared) (H:Hp),dS k (A.deeper (envOfC q scope s.heap.objs.size f (.ref c)))->PE (om fY X.prog X.w X.K X.mg X.base N q scope f (.ref c) A outer s H E0).CQ body t) :
  yP X (.ref f) fun x H Q=>tD H q args body scope f/\t (start N [x]) H Q:=by
 intro pins s σ H x u Q I rx h
 obtain⟨⟨pm,c,ct,hf,o,vs,tk,hc,hd,hv⟩,h⟩:=h
 have e0:=I.Cd.in1.in1
 have gf:=(I.aR f _ hf).1
 have gc:=(I.aR c _ hc).1
 have LO:=hr.in1.in1
 have lim:s.heap.NoLimit:=e0.mod.nolimit.keeps fun b o e=>(e0.bs b o e).1
 have x9:∀y∈ps.zip [u],scope.names.lookup y.1=some .local∨(scope.names.lookup y.1=some .cell/\((cellsFrom (s.heap.objs.size+1) scope.names []).lookup y.1).isSome=true):=fun y hy=>by
  rcases S.par y.1 (Wh (a:=y.1) (b:=y.2) hy).1 with z|z
  ·exact .inl z
  ·exact .inr ⟨z,PySem.W.cellsFrom_some _ _ _ (.inl z)⟩
 refine wpAny_call (kla_callFunE LO.depth gf rfl S.co S.gen rfl ⟨c,o,vs,tk,rfl,gc,hd,hv⟩ ?_)
 rw[hb]
 refine wpAny_pure (wpAny_newFunctionEnv_cells S.kind x9 fun env he s1 x1 =>?_)
 subst he
 refine⟨lim.keeps x1.toInCall.keep,kla_codeExpr ?_⟩
 have I1:Inv (om fY X.prog X.w X.K X.mg X.base N q scope f (.ref c) X.A.in1.in1 X.stack s H E0) [] (start N [x]) H s1:=mN S LO.hd e0 (by rw[hp];rfl) (.cons rx .nil) x1
 refine wpAny_mono (kN c X.A.in1.in1 X.stack s H (LO.deeper _) s1 (start N [x]) H Q (I1.lh _) h) (fun v s' z =>?_) fun _ _ z=>z.elim
 refine ae.el z _ ?_
 rintro w H' J rv q
 exact⟨w,H',J.os,J.bare,J.base,J.aR,rv,q⟩
theorem nU {prog:Program}{w:World}{A:Around}{E:Value->Shared->Prop}{s:Shared}{T:String}{r d:Addr}{n:Nat}{P:Nat->Value->Prop}{OK:Heap->Prop}{Q:List Value->Shared->Prop}(src:KdlSrc prog w T r d n P OK)(hh:A.handled=none)
  (ok:∀h:Heap,(∀b o,s.heap.get? b=some o->h.get? b=some o)->OK h) (hr:r<s.heap.objs.size) (hd:d<s.heap.objs.size) (hz:n<=sizeLine)
  (fin:∀(h':Heap) (tk:Nat) (acc:Array Value),s.heap.objs.size<=h'.objs.size->(∀b o,s.heap.get? b=some o->h'.get? b=some o)->ItemsOf P acc n->Q acc.toList { s with heap:=h',toks:=tk }):wpAny (model prog w) A (collect (.ref r)) Q E s:=by
 unfold collect
 refine wpAny_bind (wpAny_runValue (codeAny_builtin PySem.F.entry_proto_collect ?_))
 rw[Around.under_plainId PySem.F.plain_proto_collect _]
 show wpAny _ A.in1 (newList [] >>= fun l=>again (.builtin "list.__iadd__" ⟨[l,.ref r],[]⟩)) _ _ s
 refine wpAny_bind (wpAny_newObj_type (wpAny_pure ⟨plainId_quiet PySem.F.plain_list_iadd _,codeAny_builtin PySem.F.entry_list_iadd ?_⟩))
 rw[Around.under_plainId PySem.F.plain_list_iadd _]
 have k0:∀b o,s.heap.get? b=some o->(s.heap.push { cls := .type "list",data := .seq ([]:List Value).toArray }).get? b=some o:=fun b o x=>Jb _ x
 refine kdl_extend (s:={ s with heap:=s.heap.push { cls := .type "list",data := .seq ([]:List Value).toArray } }) (A:=A) (res := .ref s.heap.objs.size)
  (R:=fun(r:Result) s'=>match r with
   | .ok (.ret v)=>wpAny (model prog w) A (match v with
    | .ref a=>(load a >>= fun o=>match o.data with
     | .seq xs _=>pure xs.toList
     | _=>unsupported "internal:collect")
    | _=>unsupported "internal:collect") Q E s'
   | .ok _=>False
   | .error e=>E e s') src hh (ok _ k0) s.heap.objs.size (Yk hr) (Yk hd) (c₀:=0) (Jo _ rfl) (fun h' tk acc c k hS it =>?_) hz
 refine wpAny_bind (wpAny_load hS (wpAny_pure ?_))
 exact fin h' tk acc (Uy (Jk hS)) (fun b o x=>k b o (Jz (Jk x)) (k0 b o x)) it
section
variable {X:Cx}
theorem xX {r:Addr->V->Hp->VK->Prop}(hc:X.calm=true)(F:∀f:Addr,yP X (.ref f) (r f)):nE X "sorted" [Str.ofString "key"] (fun xs zs H Q=>lU fun(d f:Addr) (kvs:List (Key×V)) (ts:List Str)=>xs=[.ref d]/\zs=[.ref f]/\H d=some (.dK kvs)/\(kvs.map fun q=>kV q.1)=ts.map V.str /\
  (∀t∈ts,∀Hj,au H Hj->r f (.str t) Hj fun v H'=>∃q,v = .ref q/\dM Hj q (.tup [.int t.length,.str t]) H') /\
  ∀(us:List Str) (q:Addr) (H':Hp),us.Perm ts->us.Pairwise (fun a b =>¬ff b a)->au H H'->H q=none->H' q=some (.lst (us.map V.str))->Q (.ref q) H'):=by
 intro pins s σ H xs us zs ws Q I r1 r2 h
 obtain⟨d,f,kvs,ts,rfl,rfl,hd,hk,hr,q⟩:=h
 obtain⟨u,rfl,ru⟩:=vals1 r1
 obtain⟨z,rfl,rz⟩:=vals1 r2
 cases ru;cases rz
 obtain⟨z,ns,vs,kv,o,es,ep,e,rr⟩:=I.aR d _ hd
 have kl:=kv.length
 have tl:ts.length=kvs.length:=by have:=congrArg J9 hk;rw[Ja,Ja] at this;exact this.symm
 have ht:ts.length<=sizeLine:=by rw[tl];exact z
 have dl:=Jk e
 show wpAny _ _ (call (.builtin "sorted") [.ref d] [(Str.ofString "key",.ref f)]) _ _ _
 refine call_function_entry_kw kind_sorted plain_sorted entry_sorted (ksk_s1 _ _) ?_
 unfold Builtin.«sorted»
 refine wpAny_bind (m:=checkCount "sorted" 1 1 _) (wpAny_pure (wpAny_bind (nU (kdl_dict (knd:=aU X.prog X.w) (kvs:=vs) (ep:=ep) ns) (I.ok.hd hc) (fun h k=>⟨o,es,k _ _ e,rr⟩) dl dl (by omega) fun h' tk acc hsz keep it =>?_)))
 have rv:Vals (ts.map V.str) acc.toList:=hk▸pL kv (by rw[Jw];exact it.1) fun j v ej=>it.2 j v (by rw[<-Uh];exact ej)
 have hi:acc.toList.length<=sizeLine:=by rw[<-rv.length,Ja];exact ht
 refine wpAny_bind (wpAny_newList ?_ hi)
 have k2:(h'.push (seqObj "list" acc.toList.toArray 0)).get? h'.objs.size=some (seqObj "list" acc.toList.toArray 0):=Jo _ rfl
 have BW:∀b o,s.heap.get? b=some o->(h'.push (seqObj "list" acc.toList.toArray 0)).get? b=some o:=fun b o e=>Jb _ (keep b o e)
 show wpAny _ _ _ _ _ { s with heap:=Heap.push _ (seqObj "list" acc.toList.toArray 0),toks:=tk }
 refine wpAny_bind (wpAny_holding (wpAny_call_entry_kw slot_list_sort ⟨_,k2,rfl⟩ entry_list_sort ?_ (ksk_l1 _ _)))
 rw[ksk_t1]
 have d0:s.heap.get? h'.objs.size=none:=Heap.get?_none_of_le hsz
 have I':Inv X pins σ H { s with toks:=tk }:=I.tok tk
 refine lz (ts:=ts) (s0:={ s with toks:=tk }) I' (F f) hr ((Run.start I').kept BW) d0 k2 (I.aR.fresh hsz) rv ht (fun b o e=>Jk (BW b o e)) ?_
 intro vs out Hn sn e run same dn hD rv' up pw
 have lo:vs.length<=sizeLine:=by rw[up.length_eq];exact ht
 have new:=run.told (o := .lst (vs.map V.str)) d0 dn ⟨by rw[Ja];exact lo,out.toList,e,rv',by simpa [seqObj] using hD⟩
 refine⟨_,rfl,wpAny_pure ⟨_,rfl,.ref h'.objs.size,_,new.inv I',rfl,q vs _ _ up pw (fun a o z =>?_) (I.aR.fresh hsz) ar⟩⟩
 rw[aj (fun h=>by rw[h,I.aR.fresh hsz] at z;cases z)]
 exact same a o z
end
noncomputable def AM:Expr->Arguments | .Lambda a _ _ _=>a|_=>{ posonlyargs:=[],args:=[],vararg:=none,kwonlyargs:=[],kw_defaults:=[],kwarg:=none,defaults:=[] }
noncomputable def Al:Expr->Expr | .Lambda _ b _ _=>b|e=>e
noncomputable def wy:Expr->Scope | .Lambda _ _ s _=>s|_=>{ kind := .function,names:=[],isGenerator:=false,isCoroutine:=false }
noncomputable def fU:Expr->Pos | .Lambda _ _ _ p=>p|_=>⟨0,0,0,0⟩
noncomputable def D5 (b:List Stmt):Expr:=match b.getLast? with
 | some (.Return (some (.Call _ _ [kw] _)) _)=>kw.value
 | _ =>.Name "x" ⟨0,0,0,0⟩
end L2
namespace Z
open PySem L2
noncomputable def top (i:Nat):Stmt:=PySem.Challenge.pw_oddlong_k61_ranks.main.body.getD i (.Pass ⟨0,0,0,0⟩)
noncomputable abbrev jB:Nat:=2
noncomputable abbrev jk:Nat:=3
noncomputable abbrev jG:Nat:=4
noncomputable abbrev gP:Nat:=5
noncomputable abbrev eV:Nat:=6
noncomputable abbrev gH:Nat:=7
noncomputable abbrev fF:Nat:=8
noncomputable abbrev jC:Nat:=10
noncomputable abbrev iG:Nat:=11
noncomputable abbrev fE:Nat:=12
noncomputable abbrev fC:Nat:=14
noncomputable abbrev gR:Nat:=15
noncomputable abbrev oC:Nat:=16
noncomputable abbrev gN:Nat:=18
noncomputable abbrev iP:Nat:=19
noncomputable abbrev iO:Nat:=20
noncomputable abbrev g6:Nat:=21
noncomputable abbrev iL:Nat:=22
noncomputable abbrev gO:Nat:=23
noncomputable abbrev iB:Nat:=24
noncomputable abbrev gX:Nat:=25
noncomputable abbrev gK:Nat:=26
noncomputable abbrev fX:Nat:=27
noncomputable abbrev iD:Nat:=28
noncomputable abbrev cU:Nat:=29
noncomputable abbrev gS:Nat:=30
noncomputable abbrev i9:Nat:=31
theorem sizeOk {n:Nat}(h:n<=10000000):n<=sizeLine:=Ju h (by decide)
theorem dN (l:List Str)(h:decide l.Nodup=true:=by decide +kernel):l.Nodup:=of_decide_eq_true h
end Z
namespace L2
set_option genSizeOf false
set_option genInjectivity false
set_option genSizeOf false
set_option genInjectivity false
end L2
namespace Z
open PySem L2
structure qM (H:Hp)(b c:Addr)(t:Int)(ns:List Int)(ex:List (Key×V)):Prop where
 d:H b=some (.dK ((.inr "cells",.ref c)::(.inr "turn",.int t)::ex))
 xl:ex=[]∨ex=[(.inr "great",.int 1)]
 l:H c=some (.lst (ns.map V.int))
 ne:0<ns.length
 le:ns.length<=64
noncomputable def lR (H:Hp)(b c:Addr):Hp:=fun a=>if a=b∨a=c then none else H a
theorem jH {H:Hp}{b c a:Addr}(h1:a≠b)(h2:a≠c):lR H b c a=H a:=if_neg (fun z=>z.elim h1 h2)
theorem lP {H:Hp}{b c a:Addr}{o:HO}(h:lR H b c a=some o):H a=some o/\a≠b/\a≠c:=by
 unfold lR at h
 split at h
 ·cases h
 ·rename_i n
  exact⟨h,fun z=>n (.inl z),fun z=>n (.inr z)⟩
theorem qM.bc {H:Hp}{b c:Addr}{t:Int}{ns:List Int}{ex:List (Key×V)}(x:qM H b c t ns ex):b≠c:=xN x.d x.l (by intro z;cases z)
theorem qM.yL {H:Hp}{b c:Addr}{t:Int}{ns:List Int}{ex:List (Key×V)}(x:qM H b c t ns ex):cK H b (.str "turn") (some (.int t)):=cK.k (k:=Sum.inr "turn") x.d
theorem qM.jr {H:Hp}{b c:Addr}{t:Int}{ns:List Int}{ex:List (Key×V)}(x:qM H b c t ns ex):cK H b (.str "cells") (some (.ref c)):=cK.k (k:=Sum.inr "cells") x.d
theorem qM.xY {H:Hp}{b c:Addr}{t:Int}{ns:List Int}{ex:List (Key×V)}(x:qM H b c t ns ex)(t':Int):gq H b (.str "turn") (.int t') (upd H b (.dK ((.inr "cells",.ref c)::(.inr "turn",.int t')::ex))):=
 by
 rcases x.xl with h|h
 ·subst h;exact gq.k (k:=Sum.inr "turn") x.d (by show 2<sizeLine;decide)
 ·subst h;exact gq.k (k:=Sum.inr "turn") x.d (by show 3<sizeLine;decide)
theorem qM.turned {H:Hp}{b c:Addr}{t:Int}{ns:List Int}{ex:List (Key×V)}(x:qM H b c t ns ex)(t':Int):qM (upd H b (.dK ((.inr "cells",.ref c)::(.inr "turn",.int t')::ex))) b c t' ns ex:=
 ⟨ar,x.xl,by rw[aj (Ne.symm x.bc)];exact x.l,x.ne,x.le⟩
theorem mB {H:Hp}{b c:Addr}{o:HO}:lR (upd H b o) b c=lR H b c:=by
 funext a;unfold lR;split
 ·rfl
 ·rename_i n;exact aj (fun z=>n (.inl z))
theorem vg {H:Hp}{b c:Addr}{o:HO}:lR (upd H c o) b c=lR H b c:=by
 funext a;unfold lR;split
 ·rfl
 ·rename_i n;exact aj (fun z=>n (.inr z))
def oE:Sp:=fun vs H Q _=>Gx fun(b c:Addr) (t:Int) (ns:List Int) (many:Int) (ex:List (Key×V))=>vs=[.ref b,.int many]/\qM H b c t ns ex/\0<=t/\t<100000000/\0<many/\many<1073741824 /\
 ∀(r:Int) (H':Hp) (zE:List Int),0<=r->r<many->qM H' b c (t+1) zE ex->au (lR H b c) (lR H' b c)->Q (.int r) H'
theorem at_of {ns:List Int}{p:Int}(h0:0<=p)(h1:p<ns.length):∃v,rO (ns.map V.int) p=some (.int v)/\ns[p.toNat]? = some v:=by
 have hk:p.toNat<ns.length:=by omega
 have ek:p=((p.toNat:Nat):Int):=by omega
 have q:rO (ns.map V.int) ((p.toNat:Nat):Int)=some (.int ns[p.toNat]):=oJ (by rw[Jl,Jg hk]<;>rfl)
 rw[<-ek] at q
 exact⟨_,q,Jg hk⟩
theorem Dp {a j m:Int}(h0:0<m)(h:m<2^64):rq (a%m) j:=by
 have h1:=Int.emod_nonneg a (b:=m) (by omega)
 have h2:=Int.emod_lt_of_pos a h0
 exact .inl ⟨by omega,by omega⟩
theorem Dm {n:Nat}{p:Int}(h0:0<=p)(h1:p<n):yA n p=some p.toNat:=by unfold yA;rw[if_pos h0,if_pos h1]
theorem lj {H H':Hp}{b c:Addr}(h:∀a o,a≠b->a≠c->H a=some o->H' a=some o):au (lR H b c) (lR H' b c):=fun a o e=>by
 refine ae.el (lP e) _ ?_
 rintro e h1 h2
 rw[jH h1 h2]
 exact h a o h1 h2 e
end Z
namespace L2
open PySem
def Gm (t:TG):Prop:=∀x σ H (Q Q':St->Hp->Prop),(∀a b,Q a b->Q' a b)->t x σ H Q->t x σ H Q'
def Kd (t:u5):Prop:=∀x σ H (Q Q':St->Hp->Prop),(∀a b,Q a b->Q' a b)->t x σ H Q->t x σ H Q'
theorem aF {i:Nat}:Gm (gU i):=fun _ _ _ _ _ h q=>h _ _ q
theorem bh:Kd DW:=fun _ _ _ _ _ h q=>⟨q.1,h _ _ q.2⟩
theorem br {t:TG}{u:u5}(a:Gm t)(b:Kd u):Kd (wL t u):=fun _ _ _ _ _ h ⟨v,r,e,q⟩=>⟨v,r,e,a _ _ _ _ _ (fun _ _ z=>b _ _ _ _ _ h z) q⟩
theorem aO.get {K:Jc}{H:Hp}:∀{ds:List PyData} {vs:List V} {i:Nat} {d:PyData},aO K H ds vs->ds[i]? = some d->∃v,vs[i]? = some v/\Den K H d v
 | [],_,_,_,_,e=>by simp at e
 | d::ds,vs,i,d',h,e=>by
  unfold aO at h
  obtain⟨v,r,rfl,h1,h2⟩:=h
  cases i with
  | zero=>cases e;exact⟨v,rfl,h1⟩
  | succ i=>exact aO.get (i:=i) h2 e
theorem aO.len {K:Jc}{H:Hp}:∀{ds:List PyData} {vs:List V},aO K H ds vs->vs.length=ds.length
 | [],_,h=>by unfold aO at h;subst h;rfl
 | d::ds,vs,h=>by
  unfold aO at h
  obtain⟨v,r,rfl,h1,h2⟩:=h
  rw[Jt,Jt,aO.len h2]
theorem Den.pair {K:Jc}{H:Hp}{a b:Str}{v:V}(h:Den K H (.tuple [.str a,.str b]) v):∃p,v = .ref p/\fw K H p [.str a,.str b]:=by
 unfold Den at h
 obtain⟨p,vs,e,h1,h2⟩:=h
 unfold aO at h2
 obtain⟨v1,r1,rfl,d1,h2⟩:=h2
 unfold aO at h2
 obtain⟨v2,r2,rfl,d2,h2⟩:=h2
 unfold aO at h2
 subst h2
 unfold Den at d1 d2
 subst d1 d2
 exact⟨p,e,h1⟩
end L2
namespace Z
open PySem L2
theorem aQ {H:Hp}{p:Addr}(h:H p=none)(o:HO):au H (upd H p o):=fun b u q=>by rw[aj (ai q h)];exact q
end Z
namespace L2
open PySem
theorem fQ {J:It}{g:TG}{tb:TS}{D:Ends}{σ:St}{H:Hp}(N:Nat)(Pv:Nat->St->Hp->Prop)(h0:Pv 0 σ H)
  (go:∀i σ H,i<N->Pv i σ H->J.go i H/\∀x H',J.yld i H x H'->g x σ H' fun σ2 H2=>tb { D with nx:=Pv (i+1),ct:=Pv (i+1),bk:=D.nx } σ2 H2)
  (stop:∀ σ H,Pv N σ H->J.stop N H/\D.nx σ H) :
  ∃W:Nat->Nat->St->Hp->Prop,(∃m,W 0 m σ H)/\∀i m σ H,W i m σ H ->
   (J.stop i H/\D.nx σ H)∨(J.go i H/\∃N:St->Hp->Prop,(∀ σ' H',N σ' H'->∃m',m'<m/\W (i+1) m' σ' H')/\∀x H',J.yld i H x H'->g x σ H' fun σ2 H2=>tb { D with nx:=N,ct:=N,bk:=D.nx } σ2 H2):=by
 refine⟨fun i m σ H=>m=N-i/\i<=N/\Pv i σ H,⟨N,by simp,Us _,h0⟩,?_⟩
 intro i m σ H
 refine ae.go ?_
 rintro rfl hi p
 by_cases bN:i<N
 ·obtain⟨g1,g2⟩:=go i σ H bN p
  exact .inr ⟨g1,Pv (i+1),fun σ' H' p'=>⟨N-(i+1),by omega,rfl,bN,p'⟩,g2⟩
 ·have e:i=N:=by omega
  subst e
  exact .inl (stop σ H p)
theorem cz {t u:TS}{D:Ends}{σ:St}{H:Hp}(Ex:St->Hp->Prop)(h:∀Nx:St->Hp->Prop,(∀ σ H,Ex σ H->Nx σ H)->t { D with nx:=Nx } σ H)(fin:∀ σ H,Ex σ H->u D σ H):uQ t u D σ H:=h (u D) fin
theorem ie {c:TT}{tb:TS}{D:Ends}{σ:St}{H:Hp}(Pv:Nat->St->Hp->Prop)(h0:∃m,Pv m σ H)
  (hs:∀m σ H,Pv m σ H->c σ H fun b H1=>if b=true then ∃N:St->Hp->Prop,(∀ σ' H',N σ' H'->∃m',m'<m/\Pv m' σ' H')/\tb { D with nx:=N,ct:=N,bk:=D.nx } σ H1 else D.nx σ H1):gL c tb D σ H:=⟨Pv,h0,hs⟩
theorem bW {te:TE}{g:TG}{u:TS}{D:Ends}{σ:St}{H:Hp}(Ex:V->Hp->Prop)(h:∀Qn:VK,(∀v H,Ex v H->Qn v H)->te σ H Qn)(fin:∀v H,Ex v H->g v σ H (u D)):uQ (uF te g) u D σ H:=h _ fin
theorem Cv {te:TE}{g:TG}{D:Ends}{σ:St}{H:Hp}(Ex:V->Hp->Prop)(h:∀Qn:VK,(∀v H,Ex v H->Qn v H)->te σ H Qn)(fin:∀v H,Ex v H->g v σ H D.nx):uF te g D σ H:=h _ fin
theorem gn {i:Nat}{v:V}{σ:St}{H:Hp}{Q:St->Hp->Prop}(h:Q (σ.set i (some v)) H):gU i v σ H Q:=h
end L2
namespace Z
open PySem L2
def Bx (H:Hp)(b c:Addr)(t:Int):Prop:=bO fun(ns:List Int) (ex:List (Key×V))=>qM H b c t ns ex
structure Step (b c:Addr)(H H':Hp)(t t' N:Int):Prop where
 le:t<=t'
 ub:t'<=t+N
 bx:Bx H' b c t'
 sm:au (lR H b c) (lR H' b c)
theorem Step.refl {b c:Addr}{H:Hp}{t:Int}(h:Bx H b c t):Step b c H H t t 0:=⟨Yn _,by omega,h,au.refl _⟩
theorem Step.trans {b c:Addr}{H H' H2:Hp}{t t' t2 N M:Int}(x:Step b c H H' t t' N)(y:Step b c H' H2 t' t2 M):Step b c H H2 t t2 (N+M):=
 ⟨by have:=x.le;have:=y.le;omega,by have:=x.ub;have:=y.ub;omega,y.bx,x.sm.trans y.sm⟩
theorem Step.more {b c:Addr}{H H':Hp}{t t' N M:Int}(x:Step b c H H' t t' N)(h:N<=M):Step b c H H' t t' M:=⟨x.le,by have:=x.ub;omega,x.bx,x.sm⟩
theorem Bx.cg {H:Hp}{b c p:Addr}{t:Int}(x:Bx H b c t)(h:H p=none):p≠b/\p≠c:=by
 obtain⟨ns,ex,x⟩:=x
 exact⟨fun z=>(by rw[z,x.d] at h;cases h),fun z=>(by rw[z,x.l] at h;cases h)⟩
theorem Bx.upd {H:Hp}{b c p:Addr}{t:Int}{o:HO}(x:Bx H b c t)(h1:p≠b)(h2:p≠c):Bx (upd H p o) b c t:=by
 obtain⟨ns,ex,x⟩:=x
 exact⟨ns,ex,by rw[aj (Ne.symm h1)];exact x.d,x.xl,by rw[aj (Ne.symm h2)];exact x.l,x.ne,x.le⟩
theorem Step.new {b c p:Addr}{H H':Hp}{t t' N:Int}(x:Step b c H H' t t' N)(h:H' p=none)(o:HO):Step b c H (upd H' p o) t t' N:=
 ⟨x.le,x.ub,x.bx.upd (x.bx.cg h).1 (x.bx.cg h).2,x.sm.trans (lj fun a u _ _ e=>by rw[aj (ai e h)];exact e)⟩
theorem Step.chg {b c p:Addr}{H H':Hp}{t t' N:Int}(x:Step b c H H' t t' N)(h:H p=none)(h1:p≠b)(h2:p≠c)(o:HO):Step b c H (upd H' p o) t t' N:=
 ⟨x.le,x.ub,x.bx.upd h1 h2,fun a u e=>by
  have q:=x.sm a u e
  refine ae.el (lP q) _ ?_
  rintro q n1 n2
  rw[jH n1 n2,aj (fun z =>?_)]
  ·exact q
  ·rw[z] at e
   rw[(lP e).1] at h;cases h⟩
theorem Step.old {b c a:Addr}{H H':Hp}{t t' N:Int}{o:HO}(x:Step b c H H' t t' N)(h:H a=some o)(h1:a≠b)(h2:a≠c):H' a=some o:=
 (lP (x.sm a o (by rw[jH h1 h2];exact h))).1
theorem Step.fresh {b c a:Addr}{H H':Hp}{t t' N:Int}(x:Step b c H H' t t' N)(hb:Bx H b c t)(h:H' a=none):H a=none:=by
 obtain⟨h1,h2⟩:=x.bx.cg h
 cases e:H a with
 | none=>rfl
 | some o=>rw[x.old e h1 h2] at h;cases h
theorem au.lR {H H':Hp}{b c:Addr}(s:au H H'):au (lR H b c) (lR H' b c):=lj fun a o _ _ e=>s a o e
theorem Bx.same {H H':Hp}{b c:Addr}{t:Int}(x:Bx H b c t)(s:au H H'):Bx H' b c t:=by
 obtain⟨ns,ex,x⟩:=x
 exact⟨ns,ex,s _ _ x.d,x.xl,s _ _ x.l,x.ne,x.le⟩
theorem Step.same {b c:Addr}{H H':Hp}{t:Int}(x:Bx H b c t)(s:au H H'):Step b c H H' t t 0:=⟨Yn _,by omega,x.same s,au.lR s⟩
def uB:Sp:=fun vs H Q _=>lU fun(b c:Addr) (t many:Int)=>vs=[.ref b,.int many]/\Bx H b c t/\0<=t/\t<100000000/\0<many/\many<1073741824 /\
 ∀(r:Int) (H':Hp),0<=r->r<many->Step b c H H' t (t+1) 1->Q (.int r) H'
theorem zJ {vs:List V}{H:Hp}{Q:VK}{E:XK}(h:uB vs H Q E):oE vs H Q E:=by
 obtain⟨b,c,t,many,e,⟨ns,ex,bx⟩,h1,h2,h3,h4,q⟩:=h
 exact⟨b,c,t,ns,many,ex,e,bx,h1,h2,h3,h4,fun r H' zE r0 r1 bx' sm=>q r H' r0 r1 ⟨by omega,by omega,⟨zE,ex,bx'⟩,sm⟩⟩
theorem B2 (vs:List V)(j:Nat):qa vs none (some (j:Int))=vs.take j:=by
 unfold qa
 rw[HT.xB,HT.zO,List.drop_zero,Nat.sub_zero]
 rcases Nat.le_total j vs.length with h|h
 ·rw[Y0 h]
 ·rw[Nat.min_eq_right h,Wb (Jf _),Wb h]
theorem Fn.imp {P:Program}{w:World}{K:Jc}{mg:Str->Option Value}{base:Heap}{k:Nat}{x:Str}{ps:List Str}{sp Hw:Sp}(F:Fn P w K mg base k x ps sp)(h:∀vs H Q E,Hw vs H Q E->sp vs H Q E):Fn P w K mg base k x ps Hw:=by
 refine ae.el (F.ex) _ ?_
 rintro f fd a b c d
 exact⟨f,fd,a.imp h,b,c,d⟩
theorem Step.e9 {b c p:Addr}{H H' H2:Hp}{t t' N:Int}{o:HO}(x:Step b c H H' t t' N)(n:dM H' p o H2):Step b c H H2 t t' N:=by rw[n.eq];exact x.new n.nn _
theorem Step.A8 {b c p:Addr}{H H' H2:Hp}{t t' N:Int}{o:HO}(x:Step b c H H' t t' N)(n:jT H' p o H2)(h:H p=none)(h1:p≠b)(h2:p≠c):Step b c H H2 t t' N:=by rw[n.eq];exact x.chg h h1 h2 _
theorem qM.same {H H':Hp}{b c:Addr}{t:Int}{ns:List Int}{ex:List (Key×V)}(x:qM H b c t ns ex)(s:au H H'):qM H' b c t ns ex:=⟨s _ _ x.d,x.xl,s _ _ x.l,x.ne,x.le⟩
section
variable {P:Program}{w:World}{K:Jc}{mg:Str->Option Value}{base:Heap}{f:Addr}{fd:FuncData}
theorem cE:aN ["_law_state", "_law_many", "_law_turn", "_law_place", "_law_cell", "_law_digit", "_law_mixed"] ["_law_state", "_law_many"] (aB (top iP)):=⟨rfl,rfl,rfl,by decide +kernel,rfl,by decide +kernel,by decide +kernel⟩
theorem zh (F:cY K "_law_take" "_law_take" (top iP) f fd)(T:Nm mg):bI P w K mg base fY 1 f fd ["_law_state", "_law_many"] oE:=by
 refine F.ok cE (fun vs H Q E h =>?_) (fun d9 A outer s H vs Q E hr h =>?_)
 ·obtain⟨b,c,t,ns,many,ex,rfl,_⟩:=h
  rfl
 unfold oE at h
 refine ae.el h _ ?_
 clear h
 rintro b c t ns many ex rfl bx t0 t1 m0 m1 q
 have hu:=gA hr
 refine⟨_,(ah (aL (i:=2) cE.nd rfl (Or.inl rfl) (bj fz (bL hu (pv 0) bf (fun _ _=>rfl)) aw))
  (ah (fv hu (pv 0) bf (pv 2) rfl)
  (ah (aL (i:=3) cE.nd rfl (Or.inl rfl) (bj jw (pv 2) (aq (dE K) rfl T.n_len (by rfl) (aa (bL hu (pv 0) bf (fun _ _=>rfl)) ag))))
  (ah (aL (i:=4) cE.nd rfl (Or.inl rfl) (ji (A3 K) (bL hu (pv 0) bf (fun _ _=>rfl)) (pv 3) (fun _ _=>rfl)))
  (ah (cb (aI Bj (pv 4) (bj Dv aw aw) (aH _)) (ah (oO (aq zN rfl T.n_divmod (by rfl) (aa (pv 4) (aa (pv 1) ag))) (tupK K 2 rfl (aJ (C3 (bL hu (pv 0) bf (fun _ _=>rfl)) (pv 3) set_list) (aJ (ak (i:=5) cE.nd rfl (Or.inl rfl)) cB))))
  (ao (aM (pv 5)))) ba)
  (ah (aL (i:=6) cE.nd rfl (Or.inl rfl) (bj jw (bj nD (bj fz (bj fz (bj jw (pv 4) aw) (bj nD (bj nD (pv 2) (pv 2)) aw)) aw) aw) aw))
  (ah (aL (i:=6) cE.nd rfl (Or.inl rfl) (bj jw (bj nD (pv 6) (pv 6)) aw))
  (ao (aM (bj jw (bj Au (bj jw (bj nD (bj fz (pv 6) (bj nD (pv 2) aw)) aw) aw) aw) (pv 1))))))))))),?_⟩
 refine⟨_,rfl,b,_,rfl,bx.yL,.inl ⟨_,_,rfl,rfl,?_⟩⟩
 refine⟨_,rfl,_,rfl,b,_,rfl,bx.xY (t+1),?_⟩
 have uZ:=bx.turned (t+1)
 refine⟨_,rfl,_,rfl,b,_,rfl,uZ.jr,_,_,rfl,.inl ⟨_,aD.of uZ.l,rfl⟩,_,_,rfl,rfl,?_,?_⟩
 ·rw[Ja];have:=uZ.ne;omega
 have hlen:(ns.map V.int).length=ns.length:=Ja _
 have M9:0<=(t+1)%((ns.map V.int).length:Int):=Int.emod_nonneg _ (by have:=uZ.ne;omega)
 have kb:(t+1)%((ns.map V.int).length:Int)<ns.length:=by rw[hlen];exact Int.emod_lt_of_pos _ (by have:=uZ.ne;omega)
 refine ae.el (at_of M9 kb) _ ?_
 rintro v hv NP
 refine⟨_,rfl,b,_,rfl,uZ.jr,_,rfl,.inl ⟨c,_,_,_,rfl,rfl,aD.of uZ.l,hv,?_⟩⟩
 refine⟨_,rfl,_,_,rfl,rfl,⟨by decide,by decide,by decide⟩,_,_,rfl,rfl,_,rfl,?_⟩
 refine eX (fun _ =>?_) (fun _ =>?_)
 ·refine⟨_,rfl,_,rfl,v,many,rfl,⟨m0,by omega⟩,fun pt H2 n2 =>?_⟩
  obtain⟨hpb,hpc⟩:pt≠b/\pt≠c:=⟨fun z=>(by have:=n2.nn;rw[z,uZ.d] at this;cases this),fun z=>(by have:=n2.nn;rw[z,uZ.l] at this;cases this)⟩
  have zB:=uZ.same n2.same
  refine⟨pt,_,rfl,fw.of n2.at,rfl,_,_,rfl,?_⟩
  refine⟨_,rfl,b,_,rfl,zB.jr,_,rfl,c,_,_,_,rfl,rfl,zB.l,Dm M9 (by simpa only [hlen] using kb),?_⟩
  refine⟨_,_,rfl,rfl,_,rfl,?_⟩
  refine q (v%many) _ (ns.set ((t+1)%((ns.map V.int).length:Int)).toNat (v / many)) (Int.emod_nonneg _ (by omega)) (Int.emod_lt_of_pos _ m0) ⟨?_,zB.xl,?_,?_,?_⟩ ?_
  ·rw[aj zB.bc];exact zB.d
  ·rw[ar,List.map_set]
  ·rw[List.length_set];exact uZ.ne
  ·rw[List.length_set];exact uZ.le
  ·rw[vg]
   refine lj fun a o h1 h2 e =>?_
   rw[n2.ne (fun z =>?_),aj h1]
   ·exact e
   ·have z2:=n2.nn
    rw[aj hpb,<-z,e] at z2
    cases z2
 ·refine⟨_,rfl,_,_,rfl,rfl,(by dsimp only;decide),_,rfl,_,rfl,.inl ⟨_,_,rfl,rfl,.inl ⟨by omega,by omega⟩,.inl ⟨_,_,rfl,rfl,.inr ⟨by decide,by decide⟩,.inl ⟨_,_,rfl,rfl,.inl ⟨_,_,rfl,rfl,.inl ⟨_,_,rfl,rfl,.inr ⟨by decide,by decide⟩,_,_,rfl,rfl,(by dsimp only;decide),?_⟩⟩⟩⟩⟩⟩
  have cm:∀(x y p:Int),0<p->p<2^64->rq (x%p) y:=fun x y p h0 h1=>Dp h0 h1
  refine⟨_,rfl,_,rfl,.inl ⟨_,_,rfl,rfl,cm _ _ _ (by decide) (by decide),?_⟩⟩
  refine⟨_,_,rfl,rfl,(by dsimp only;decide),?_⟩
  refine⟨_,rfl,_,rfl,.inl ⟨_,_,rfl,rfl,.inl ⟨by omega,by omega⟩,.inl ⟨_,_,rfl,rfl,.inl ⟨_,_,rfl,rfl,.inr ⟨by decide,by decide⟩,_,_,rfl,rfl,(by dsimp only;decide),_,_,rfl,rfl,⟨by decide,by decide⟩,_,rfl,_,_,rfl,rfl,m0,?_⟩⟩⟩⟩
  exact q _ _ ns (Int.emod_nonneg _ (by omega)) (Int.emod_lt_of_pos _ m0) uZ (by rw[mB];exact au.refl _)
end
def jo (x:Str):Prop:=∀c∈x.cps.toList,c=48∨c=49
theorem kW (g:Str):∀(parts:List Str) (acc:Array Nat),(parts.foldl (fun acc p=>acc++g.cps++p.cps) acc).toList=acc.toList++parts.flatMap (fun p=>g.cps.toList++p.cps.toList)
 | [],acc=>by simp
 | p::r,acc=>by rw[List.foldl_cons,kW g r];simp
theorem lg (xs:List Str):(Txt.join "" xs).cps.toList=xs.flatMap (fun p=>p.cps.toList):=by
 cases xs with
 | nil=>rfl
 | cons x r=>
  show((r.foldl (fun acc p=>acc++(Str.ofString "").cps++p.cps) x.cps)).toList=_
  rw[kW]
  have e:(Str.ofString "").cps.toList=[]:=rfl
  simp[e]
noncomputable abbrev KQ:Str := "abcdefghijklmnopqrstuvwxyz"
theorem wQ:KQ.cps.toList=(We 26).map (97 + ·):=by decide +kernel
theorem yy {r:Int}(h0:0<=r)(h1:r<26):rO KQ.cps.toList r=some (97+r.toNat):=by
 refine m7 h0 ?_
 rw[wQ,Jl,List.getElem?_range (by omega)]
 rfl
theorem bD (x y:Str):(x++y).cps.toList=x.cps.toList++y.cps.toList:=by
 show(x.cps++y.cps).toList=_
 simp
theorem str_len (x:Str):x.length=x.cps.toList.length:=by simp[Str.length]
theorem eW (x y:Str):(x++y).length=x.length+y.length:=by rw[str_len,bD,Je,<-str_len,<-str_len]
theorem len_one (ch:Nat):(⟨#[ch]⟩:Str).length=1:=rfl
def Sh (n:Nat)(d:PyData):Prop:=d.canLay0=true/\d.depth<=n
theorem Sh.all {n:Nat}:∀{ds:List PyData},(∀d∈ds,Sh n d)->PyData.canLayAll0 ds=true/\PyData.depthAll ds<=n
 | [],_=>⟨by simp[PyData.canLayAll0],by simp[PyData.depthAll]⟩
 | d::ds,h=>by
  obtain⟨h1,h2⟩:=h d Js
  obtain⟨h3,h4⟩:=Sh.all fun e he=>h e (Jq _ he)
  exact⟨by simp[PyData.canLayAll0,h1,h3],by simp only[PyData.depthAll];omega⟩
theorem Sh.list {n:Nat}{ds:List PyData}(h:∀d∈ds,Sh n d):Sh (n+1) (.list ds):=by
 obtain⟨h1,h2⟩:=Sh.all h
 exact⟨by simpa [PyData.canLay0] using h1,by simp only[PyData.depth];omega⟩
theorem Sh.tuple {n:Nat}{ds:List PyData}(h:∀d∈ds,Sh n d):Sh (n+1) (.tuple ds):=by
 obtain⟨h1,h2⟩:=Sh.all h
 exact⟨by simpa [PyData.canLay0] using h1,by simp only[PyData.depth];omega⟩
theorem Sh.shaped {n:Nat}{d:PyData}(h:Sh n d)(hn:n<=64):SeqAt.shaped d=true:=by
 unfold SeqAt.shaped
 rw[h.1,decide_eq_true (Ju h.2 hn)]
 rfl
theorem Sh.str {n:Nat}{x:Str}(h:PyData.canLay0 (.str x)=true):Sh n (.str x):=⟨h,by simp[PyData.depth]⟩
theorem Sh.int {n:Nat}{i:Int}:Sh n (.int i):=⟨by simp[PyData.canLay0],by simp[PyData.depth]⟩
theorem dm {x:Str}(h:∀ch∈x.cps.toList,ch<128):PyData.canLay0 (.str x)=true:=by
 simp only[PyData.canLay0,PyData.strOk]
 rw[<-Array.all_toList,Y3]
 intro ch hc
 have:=h ch hc
 exact decide_eq_true (by omega)
theorem Den.strs {K:Jc}{H:Hp}:∀(xs:List Str),aO K H (xs.map PyData.str) (xs.map V.str)
 | []=>by unfold aO;rfl
 | x::xs=>by
  rw[Uc]
  unfold aO
  exact⟨_,_,rfl,by unfold Den;rfl,Den.strs xs⟩
theorem Den.list {K:Jc}{H:Hp}{l:Addr}{ds:List PyData}{vs:List V}(h:aD K H l vs)(hd:aO K H ds vs):Den K H (.list ds) (.ref l):=by
 unfold Den
 exact⟨l,vs,rfl,h,hd⟩
theorem kr {n:Nat}:∀{ds:List PyData} {d:PyData},PyData.depthAll ds<=n->d∈ds->d.depth<=n
 | [],_,_,h=>nomatch h
 | e::ds,d,hn,h=>by
  simp only[PyData.depthAll] at hn
  rcases J5.mp h with rfl|h
  ·omega
  ·exact kr (by omega) h
theorem jN {n:Nat}:∀{ds:List PyData} {d:PyData},PyData.weightAll ds<=n->d∈ds->d.weight<=n
 | [],_,_,h=>nomatch h
 | e::ds,d,hn,h=>by
  simp only[PyData.weightAll] at hn
  rcases J5.mp h with rfl|h
  ·omega
  ·exact jN (by omega) h
theorem iy:∀(ds:List PyData),ds.length<=PyData.weightAll ds
 | []=>by simp
 | e::ds=>by
  simp only[PyData.weightAll,Jt]
  have:=iy ds
  omega
theorem all_true (n:Nat):(Jp n true).all id=true:=by
 induction n with
 | zero=>rfl
 | succ n ih=>rw[U7,List.all_cons,ih];rfl
theorem aO.of_get {K:Jc}{H:Hp}:∀{ds:List PyData} {vs:List V},ds.length=vs.length->(∀(j:Nat) d v,ds[j]? = some d->vs[j]? = some v->Den K H d v)->aO K H ds vs
 | [],[],_,_=>by unfold aO;rfl
 | [],_::_,h,_=>by simp at h
 | _::_,[],h,_=>by simp at h
 | d::ds,v::vs,h,g=>by
  unfold aO
  exact⟨v,vs,rfl,g 0 d v rfl rfl,aO.of_get (by simpa using h) fun j d' v' h1 h2=>g (j+1) d' v' h1 h2⟩
theorem Den.pairOf {K:Jc}{H:Hp}{a:Addr}{x y:Str}(h:H a=some (.tup [.str x,.str y])):Den K H (.tuple [.str x,.str y]) (.ref a):=by
 unfold Den
 refine⟨a,_,rfl,fw.of h,?_⟩
 unfold aO
 refine⟨_,_,rfl,by unfold Den;rfl,?_⟩
 unfold aO
 refine⟨_,_,rfl,by unfold Den;rfl,?_⟩
 unfold aO
 rfl
def xT (K:Jc)(H:Hp)(bk:List (Str×Str))(v:V):Prop:=bO fun(l:Addr) (vs:List V)=>v = .ref l/\H l=some (.lst vs)/\aO K H (bk.map fun q =>.tuple [.str q.1,.str q.2]) vs
theorem wq {K:Jc}{H1 H':Hp}{b c p:Addr}{t:Int}{as:List Addr}{ns cs:List Str}(bx:Bx H1 b c t)(hp:H1 p=none)(hl:H' p=some (.lst (as.map V.ref)))(hle:ns.length=cs.length)
  (D9:as.length=min (ns.map V.str).length (cs.map V.str).length) (h:∀(j:Nat) a x y,as[j]? = some a->(ns.map V.str)[j]? = some x->(cs.map V.str)[j]? = some y->H1 a=none/\H' a=some (.tup [x,y])) :
  xT K (lR H' b c) (ns.zip cs) (.ref p):=by
 have Rq:as.length=ns.length:=by rw[D9,Ja,Ja,<-hle,Nat.min_self]
 obtain⟨pb,pc⟩:=bx.cg hp
 refine⟨p,_,rfl,by rw[jH pb pc];exact hl,aO.of_get ?_ fun j d v hd hv =>?_⟩
 ·rw[Ja,Ja,List.length_zip];omega
 ·rw[Jl] at hd hv
  have hj:j<as.length:=by
   cases e:as[j]? with
   | none=>rw[e] at hv;cases hv
   | some a=>exact(Jy.mp e).1
  have e1:as[j]? = some as[j]:=Jg hj
  have e2:ns[j]? = some (ns[j]'(by omega)):=Jg (by omega)
  have e3:cs[j]? = some (cs[j]'(by omega)):=Jg (by omega)
  rw[e1] at hv;cases hv
  rw[(List.getElem?_zip_eq_some (z:=(ns[j]'(by omega),cs[j]'(by omega)))).mpr ⟨e2,e3⟩] at hd
  cases hd
  obtain⟨h1,h2⟩:=h j as[j] _ _ e1 (by rw[Jl,e2];rfl) (by rw[Jl,e3];rfl)
  obtain⟨ab,ac⟩:=bx.cg h1
  exact Den.pairOf (by rw[jH ab ac];exact h2)
structure bu (n:Nat)(x:Str):Prop where
 bin:jo x
 pos:1<=x.length
 le:x.length<=n
theorem bu.mono {n m:Nat}{x:Str}(h:bu n x)(le:n<=m):bu m x:=⟨h.bin,h.pos,Ju h.le le⟩
theorem jo.app {x y:Str}(h:jo x)(h':jo y):jo (x++y):=fun ch hc=>by
 rw[bD] at hc
 rcases Ji.mp hc with q|q
 ·exact h ch q
 ·exact h' ch q
theorem jq (cs:List Str):(!PyData.eqv (.list (cs.map PyData.str)) (.list [])) = !cs.isEmpty:=by
 cases cs<;>simp[PyData.eqv,PyData.eqvAll]
noncomputable abbrev sg (x:Str):List Nat:=x.cps.toList
def RF (a b:Str):Prop := ¬(sg a <+: sg b)/\¬(sg b <+: sg a)
theorem RF.symm {a b:Str}(h:RF a b):RF b a:=⟨h.2,h.1⟩
theorem kP (x y:Str):sg (x++y)=sg x++sg y:=bD x y
theorem RF.ext {a b u v:Str}(h:RF a b):RF (a++u) (b++v):=by
 refine⟨fun z =>?_,fun z =>?_⟩
 ·rw[kP,kP] at z
  rcases List.prefix_or_prefix_of_prefix ((List.prefix_append _ _).trans z) (List.prefix_append (sg b) (sg v)) with q|q
  ·exact h.1 q
  ·exact h.2 q
 ·rw[kP,kP] at z
  rcases List.prefix_or_prefix_of_prefix ((List.prefix_append _ _).trans z) (List.prefix_append (sg a) (sg u)) with q|q
  ·exact h.2 q
  ·exact h.1 q
abbrev ip (cs:List Str):Prop:=cs.Pairwise RF
theorem ip.perm {cs ds:List Str}(h:ip cs)(p:cs.Perm ds):ip ds:=(p.pairwise_iff fun h=>RF.symm h).mp h
theorem ip.sub {cs ds:List Str}(h:ip cs)(s:ds.Sublist cs):ip ds:=List.Pairwise.sublist s h
noncomputable abbrev s0:Str := "0"
noncomputable abbrev s1:Str := "1"
theorem RF.two (x:Str):RF (x++s0) (x++s1):=by
 have e0:sg (x++s0)=sg x++[48]:=bD x s0
 have e1:sg (x++s1)=sg x++[49]:=bD x s1
 refine⟨fun z =>?_,fun z =>?_⟩
 ·rw[e0,e1] at z
  have:=z.eq_of_length (by simp)
  simp at this
 ·rw[e0,e1] at z
  have:=z.eq_of_length (by simp)
  simp at this
theorem RF.one {x y u:Str}(h:RF y x):RF y (x++u):=by
 have z:=h.ext (u:=Str.empty) (v:=u)
 have e:y++Str.empty=y:=by
  show(⟨y.cps ++ #[]⟩:Str)=y
  simp
 rw[e] at z
 exact z
theorem ip.split {A B:List Str}{x:Str}(h:ip (A++x::B)):ip (A++[x++s0,x++s1]++B):=by
 rw[Uv]
 refine ae.el (Ug.mp h) _ ?_
 rintro hA hxB hAB
 obtain⟨hx,hB⟩:=List.pairwise_cons.mp hxB
 refine Ug.mpr ⟨hA,?_,fun a ha y hy =>?_⟩
 ·refine Ug.mpr ⟨List.pairwise_cons.mpr ⟨fun y hy=>by rw[Jd.mp hy];exact RF.two x,List.pairwise_singleton _ _⟩,hB,fun y hy z hz =>?_⟩
  have q:=(hx z hz).symm
  simp at hy
  rcases hy with rfl|rfl
  ·exact q.one.symm
  ·exact q.one.symm
 ·rcases Ji.mp hy with hy|hy
  ·have q:=hAB a ha x Js
   simp at hy
   rcases hy with rfl|rfl
   ·exact q.one
   ·exact q.one
  ·exact hAB a ha y (Jq _ hy)
theorem xt {cs:List Str}{k:Nat}{x:Str}(h:cs[k]? = some x):cs=cs.take k++x::cs.drop (k+1):=by
 obtain⟨hk,e⟩:=Jy.mp h
 rw[<-e,<-Y1 hk,Yi]
theorem yB {cs:List Str}{k:Nat}{x:Str}(h:cs[k]? = some x):cs.Perm (x::cs.eraseIdx k):=by
 have e:=xt h
 have e2:cs.eraseIdx k=cs.take k++cs.drop (k+1):=Ym _ _
 rw[e2]
 conv=>lhs;rw[e]
 exact List.perm_middle
theorem Hh:ip [s0,s1]:=by
 refine List.pairwise_cons.mpr ⟨fun y hy =>?_,List.pairwise_singleton _ _⟩
 rw[Jd.mp hy]
 have:=RF.two Str.empty
 exact this
theorem df {x y:Str}(h:sg x=sg y):x=y:=by
 cases x;cases y
 simp only[sg] at h
 rw[Array.toList_inj.mp h]
theorem BL {x:Str}{j:Int}(h0:0<=j)(h1:j<=x.length):sg (Txt.slice x none (some j))=(sg x).take j.toNat:=by
 have e:=PyProof.Rows.slice_closes_to (x:=x) (j:=j) ⟨h0,by rw[<-str_len];exact h1⟩
 rw[eq_of_beq e]
 simp
theorem kJ {H:Hp}{b c:Addr}:au (lR H b c) H:=fun a o e=>(lP e).1
theorem sD {i:Int}(h:i.natAbs<2^200):PyData.weight (.int i)<=201:=by
 simp only[PyData.weight]
 split
 ·omega
 ·rename_i h0
  have hZ:i.natAbs≠0:=by
   intro z
   exact h0 (by simp;omega)
  have:=(Nat.log2_lt hZ).mpr h
  omega
def j7 (K:Jc):Sp:=fun vs H Q _=>bO fun(a:Addr) (ns:List Int)=>vs=[.ref a]/\aD K H a (ns.map V.int)/\ns.length<=63 /\
 ∀(b c:Addr) (H':Hp),Bx H' b c 0->H b=none->H c=none->au H (lR H' b c)->Q (.ref b) H'
theorem Den.ints {K:Jc}{H:Hp}:∀(ns:List Int),aO K H (ns.map PyData.int) (ns.map V.int)
 | []=>by unfold aO;rfl
 | n::ns=>by
  rw[Uc,Uc]
  unfold aO
  exact⟨_,_,rfl,by unfold Den;rfl,Den.ints ns⟩
theorem kG (ds:List PyData):PyData.eqv (.list ds) (.list [])=ds.isEmpty:=by
 cases ds<;>simp[PyData.eqv,PyData.eqvAll]
theorem tN {n:Nat}(ns:List Int):Sh (n+1) (.list (ns.map PyData.int)):=Sh.list fun d hd=>by
 refine ae.el (J0.mp hd) _ ?_
 rintro i _ rfl
 exact Sh.int
section
variable {P:Program}{w:World}{K:Jc}{mg:Str->Option Value}{base:Heap}{f:Addr}{fd:FuncData}
theorem fV:aN ["_law_script", "_law_cells"] ["_law_script"] (aB (top gN)):=⟨rfl,rfl,rfl,by decide +kernel,rfl,by decide +kernel,by decide +kernel⟩
theorem xh (F:cY K "_law_begin" "_law_begin" (top gN) f fd)(T:Nm mg):bI P w K mg base fY 1 f fd ["_law_script"] (j7 K):=by
 refine F.ok fV (fun vs H Q E h =>?_) (fun d9 A outer s H vs Q E hr h =>?_)
 ·obtain⟨a,ns,rfl,_⟩:=h
  rfl
 unfold j7 at h
 refine ae.el h _ ?_
 clear h
 rintro a ns rfl hS hlen q
 have eZ:=hr.units
 refine⟨_,(ah (aL (i:=1) fV.nd rfl (Or.inl rfl) (eI (BH K) rfl T.n_list (by rfl) (aa (cI (Ai K) (pv 0) dr (dj aw)) ag)))
  (ah (cb (aI (vU K eZ) (pv 1) (eS ag) (aH _)) (ao (aL (i:=1) fV.nd rfl (Or.inl rfl) (eS (aa aw ag)))) ba)
  (ao (aM (Eu (lL bf (pv 1) (lL bf aw tq)) rfl rfl (by decide) (by decide)))))),?_⟩
 refine⟨_,rfl,_,rfl,.inl ⟨a,_,rfl,hS,fun r1 H1 n1 =>?_⟩⟩
 refine⟨r1,_,rfl,.inl (aD.of n1.at),fun r2 H2 n2=>gn ?_⟩
 have hc:qa (ns.map V.int) none (some 63)=ns.map V.int:=by
  have e:=B2 (ns.map V.int) 63
  rw[Wb (by rw[Ja];exact hlen)] at e
  exact e
 have De:H2 r2=some (.lst (ns.map V.int)):=by rw[<-hc];exact n2.at
 have nj:=n1.same.trans n2.same
 dsimp only
 refine cz (t:=uJ _ _ _) (fun σ H'=>bO fun(r:Addr) (zE:List Int) =>σ=[some (.ref a),some (.ref r)]/\H' r=some (.lst (zE.map V.int))/\0<zE.length/\zE.length<=64/\H r=none/\au H H') (fun Nx nx =>?_) ?_
 ·refine⟨_,rfl,by show 0<=sizeLine;decide,fun r3 H3 n3 =>?_⟩
  have d2:Den K H3 (.list (ns.map PyData.int)) (.ref r2):=Den.list (aD.of (n3.same _ _ De)) (Den.ints ns)
  have d3:Den K H3 (.list []) (.ref r3):=Den.list (aD.of n3.at) (Den.ints [])
  refine .inr ⟨_,_,d2,d3,(tN (n:=1) ns).shaped (by decide),by decide +kernel,_,rfl,?_⟩
  rw[kG]
  refine eX (fun e =>?_) (fun e =>?_)
  ·refine⟨by show 1<=sizeLine;decide,fun r4 H4 n4=>gn (nx _ _ ⟨r4,[_],rfl,n4.at,by decide,by decide,(nj.trans n3.same).free n4.nn,nj.trans (n3.same.trans n4.same)⟩)⟩
  ·refine nx _ _ ⟨r2,ns,rfl,n3.same _ _ De,?_,by omega,n1.same.free n2.nn,nj.trans n3.same⟩
   cases ns with
   | nil=>exact absurd rfl e
   | cons _ _=>exact Nat.succ_pos _
 intro σ H3
 refine ae.go ?_
 rintro r zE rfl jP l0 l1 hn sm
 intro p H0 n0
 refine⟨_,rfl,?_⟩
 refine⟨n0.at,[(.inr "cells",.ref r),(.inr "turn",.int 0)],rfl,by show 2<=15;decide,fun H6 n6 =>?_⟩
 have OO:r≠p:=ai jP n0.nn
 have hp:H p=none:=sm.free n0.nn
 refine q p r H6 ⟨zE,[],?_,.inl rfl,?_,l0,l1⟩ hp hn (fun b o e =>?_)
 ·rw[n6.at];rfl
 ·rw[n6.ne OO,n0.ne OO];exact jP
 ·have xo:b≠p:=ai e hp
  have Qd:b≠r:=ai e hn
  rw[jH xo Qd,n6.ne xo,n0.ne xo]
  exact sm _ _ e
end
theorem aG {α:Type}{l:List α}{i:Nat}(h:i<l.length):l.take (i+1)=l.take i++[l[i]]:=by
 rw[List.take_succ,Jg h];rfl
theorem iX {α:Type}{f: α->Key×V}{k:Key}:∀{l:List α},(∀y∈l,(f y).1≠k)->av (l.map f) k=none
 | [],_=>rfl
 | y::l,h=>by
  rw[Uc,bZ (h y Js)]
  exact iX fun z hz=>h z (Jq _ hz)
end Z
set_option maxRecDepth 200000
namespace Z
open PySem L2
def vP (K:Jc)(H:Hp)(bk:List (Str×Str))(l:Addr):Prop:=∃vs,aD K H l vs/\aO K H (bk.map fun q =>.tuple [.str q.1,.str q.2]) vs
theorem vP.same {K:Jc}{H H':Hp}{bk:List (Str×Str)}{l:Addr}(h:vP K H bk l)(s:au H H'):vP K H' bk l:=by
 obtain⟨vs,h1,h2⟩:=h
 exact⟨vs,s.seq h1,h2.same s⟩
theorem qH {K:Jc}{H:Hp}{bk:List (Str×Str)}{vs:List V}(h:aO K H (bk.map fun q =>.tuple [.str q.1,.str q.2]) vs){i:Nat}(hi:i<bk.length):∃tp,vs[i]? = some (.ref tp)/\fw K H tp [.str bk[i].1,.str bk[i].2]:=by
 obtain⟨v,h1,h2⟩:=h.get (i:=i) (d := .tuple [.str bk[i].1,.str bk[i].2]) (by rw[Jl,Jg hi];rfl)
 refine ae.el (h2.pair) _ ?_
 rintro tp rfl h3
 exact⟨tp,h1,h3⟩
theorem nP {K:Jc}{H:Hp}{bk:List (Str×Str)}{vs:List V}(h:aO K H (bk.map fun q =>.tuple [.str q.1,.str q.2]) vs):vs.length=bk.length:=by rw[h.len,Ja]
theorem ql (a:Nat):∀(k:Nat) (acc:Array Nat),((Jp k #[a]).foldl (· ++ ·) acc).toList=acc.toList++Jp k a
 | 0,acc=>by simp
 | k+1,acc=>by
  rw[U7,List.foldl_cons,ql a k,U7]
  simp
theorem AJ (a k:Nat):sg (Txt.mul (⟨#[a]⟩:Str) (k:Int))=Jp k a:=by
 unfold Txt.mul
 split
 ·have:k=0:=by omega
  subst this;rfl
 ·split
  ·rename_i h1 h2
   have:k=1:=by
    have h2:((k:Int)==1)=true:=by
     rcases Bool.or_eq_true_iff.mp h2 with h|h
     ·exact h
     ·exact absurd h (by simp[Str.length])
    have:=eq_of_beq h2
    omega
   subst this;rfl
  ·show((Jp (k:Int).toNat #[a]).foldl (· ++ ·) #[]).toList=_
   rw[ql];simp
structure tm (i:Nat)(x:Str):Prop where
 le:x.length<=8
 last:x.cps.toList.getLast? = some (97+i)
theorem tm.nodup {xs:List Str}(h:∀(i:Nat) x,xs[i]? = some x->tm i x):xs.Nodup:=by
 refine U9.mpr (Yc.mpr fun i j hi hj ij e =>?_)
 have h1:=(h i _ (Jg hi)).last
 have h2:=(h j _ (Jg hj)).last
 rw[e,h2] at h1
 have h1:=Option.some.inj h1
 omega
theorem lA:∀{xs:List Str},(∀x∈xs,∃ch:Nat,x=⟨#[ch]⟩)->(xs.flatMap (fun p=>p.cps.toList)).length=xs.length/\(xs.map (·.length)).sum=xs.length
 | [],_=>⟨rfl,rfl⟩
 | x::r,h=>by
  obtain⟨ch,rfl⟩:=h x Js
  obtain⟨h1,h3⟩:=lA fun y hy=>h y (Jq _ hy)
  refine⟨by simp at h1 ⊢;omega,?_⟩
  rw[Uc,List.sum_cons,h3]
  show 1+_=_
  simp;omega
section
variable {P:Program}{w:World}{K:Jc}{mg:Str->Option Value}{base:Heap}{f:Addr}{fd:FuncData}
theorem eC:aN ["_law_state", "_law_many", "_law_letters", "_law_found", "_law_k"] ["_law_state", "_law_many"] (aB (top g6)):=⟨rfl,rfl,rfl,by decide +kernel,rfl,by decide +kernel,by decide +kernel⟩
end
def Aq:Sp:=fun vs H Q _=>Ej fun(b c:Addr) (t many most:Int)=>vs=[.ref b,.int many,.int most]/\Bx H b c t/\0<=t/\t<900000/\1<=many/\many<=12/\1<=most/\most<=12 /\
 ∀(cs:List Str) (l:Addr) (H':Hp) (t':Int),cs≠[]->(cs.length:Int)<=many->ip cs->(∀x∈cs,bu most.toNat x)->Step b c H H' t t' 40->H l=none->H' l=some (.lst (cs.map V.str))->Q (.ref l) H'
theorem BK {n:Nat}(h:1<=n):bu n s0:=⟨fun ch hc =>.inl (by have:ch∈[48]:=hc;simpa using this),by decide +kernel,h⟩
theorem BD {n:Nat}(h:1<=n):bu n s1:=⟨fun ch hc =>.inr (by have:ch∈[49]:=hc;simpa using this),by decide +kernel,h⟩
theorem bu.KR {n:Nat}{x:Str}(h:bu n x)(hl:x.length<n):bu n (x++s0):=by
 have e:s0.length=1:=by decide +kernel
 exact⟨h.bin.app (BK (n:=1) (by decide)).bin,by rw[eW];omega,by rw[eW];omega⟩
theorem bu.Mx {n:Nat}{x:Str}(h:bu n x)(hl:x.length<n):bu n (x++s1):=by
 have e:s1.length=1:=by decide +kernel
 exact⟨h.bin.app (BD (n:=1) (by decide)).bin,by rw[eW];omega,by rw[eW];omega⟩
theorem uX (xs:List Str)(k:Nat):(xs.map V.str).eraseIdx k=(xs.eraseIdx k).map V.str:=by
 rw[Ym,Ym,Jh,List.map_take,List.map_drop]
theorem oI {cs:List Str}(h:∀x∈cs,jo x):SeqAt.shaped (.list (cs.map PyData.str))=true:=(Sh.list (n:=0) fun d hd=>by
   refine ae.el (J0.mp hd) _ ?_
   rintro x hx rfl
   exact Sh.str (dm fun ch hc=>by rcases h x hx ch hc with e|e<;>omega)).shaped (by decide)
theorem iH:SeqAt.shaped (.list [])=true:=(Sh.list (n:=0) fun d hd=>by simp at hd).shaped (by decide)
section
variable {P:Program}{w:World}{K:Jc}{mg:Str->Option Value}{base:Heap}{f:Addr}{fd:FuncData}
abbrev Ni (b c:Addr)(H:Hp)(t many most mo:Int)(k:Nat)(σ:L2.St)(H':Hp):Prop:=Gx fun(cs:List Str) (l:Addr) (t':Int) (x5 x6 x7:Option V) =>σ=[some (.ref b),some (.int many),some (.int most),some (.ref l),some (.int mo),x5,x6,x7,none]/\1<=cs.length/\(cs.length:Int)<=many+mo+1/\ip cs/\(∀x∈cs,bu most.toNat x)/\Step b c H H' t t' k/\H l=none/\l≠b/\l≠c/\H' l=some (.lst (cs.map V.str))
theorem b0:aN ["_law_state", "_law_many", "_law_most", "_law_leaves", "_law_more", "_law_turn", "_law_some", "_law_leaf", "_law_found"] ["_law_state", "_law_many", "_law_most"] (aB (top iL)):=⟨rfl,rfl,rfl,by decide +kernel,rfl,by decide +kernel,by decide +kernel⟩
theorem A5 (F:cY K "_law_free" "_law_free" (top iL) f fd)(T:Nm mg)(aW:Fn P w K mg base 1 "_law_take" ["_law_state", "_law_many"] uB):bI P w K mg base fY 2 f fd ["_law_state", "_law_many", "_law_most"] Aq:=by
 refine F.ok b0 (fun vs H Q E h =>?_) (fun d9 A outer s H vs Q E hr h =>?_)
 ·obtain⟨b,c,t,many,most,rfl,_⟩:=h
  rfl
 unfold Aq at h
 refine ae.el h _ ?_
 clear h
 rintro b c t many most rfl bx t0 t1 m0 m1 o0 o1 q
 have eZ:=hr.units
 have z1:sizeLine>=10000000:=by decide
 refine⟨_,(ah (aL (i:=3) b0.nd rfl (Or.inl rfl) (eS (aa bf (aa bf ag))))
  (ah (aL (i:=4) b0.nd rfl (Or.inl rfl) (bb (aW.mono (by decide)) hr rfl (aa (pv 0) (aa aw ag))))
  (ah (eY PassesOwn.never rfl (eJ rfl T.n_range (aa (pv 1) ag)) (ak (i:=5) b0.nd rfl (Or.inl rfl)) (ah (bz (i:=6) b0.nd rfl (Or.inl rfl) rfl (aK (Nc:=["_law_leaf"]) (Fc:=["_law_most"]) (js:=[2])) (gr K (pv 3)) (aA (i:=0) (n:=1) (by decide)) (fun _ _ _ _ _=>(ak (i:=0) (dN ["_law_leaf", "_law_most"]) rfl (Or.inl rfl))) (fun _ _ _ _ _=>(dI (aI qv (aq (dE K) rfl T.n_len (by rfl) (aa (pv 0) ag)) (pv 1) (aH _)))) (fun _ _ _ _ _=>(pv 0)))
  (ao (cb (PW.pt (jj (aI (oP K eZ) (pv 6) (eS ag) (aH _)) (hX (aI qv (aq (dE K) rfl T.n_len (by rfl) (aa (pv 3) ag)) (bj fz (pv 1) (pv 4)) (aH _))))) (ah (aL (i:=7) b0.nd rfl (Or.inl rfl) (ji (A3 K) (pv 6) (bb (aW.mono (by decide)) hr rfl (aa (pv 0) (aa (aq (dE K) rfl T.n_len (by rfl) (aa (pv 6) ag)) ag))) (fun _ _=>rfl)))
  (ah (cX (sr K PySem.F.plainAttrs_list PySem.F.slot_list_remove PySem.F.type_list_remove Aj (pv 3) (aa (pv 7) ag)))
  (ao (aL (i:=3) b0.nd rfl (Or.inl rfl) (bj fz (pv 3) (eS (aa (bj fz (pv 7) bf) (aa (bj fz (pv 7) bf) ag)))))))) ba))))
  (ah (aL (i:=8) b0.nd rfl (Or.inl rfl) (eS ag))
  (ah (fJ PassesOwn.never (PW.pt (jj (aI (oP K eZ) (pv 3) (eS ag) (aH _)) (hX (aI qv (aq (dE K) rfl T.n_len (by rfl) (aa (pv 8) ag)) (pv 1) (aH _))))) (ao (cX (sr K PySem.F.plainAttrs_list PySem.F.slot_list_append PySem.F.type_list_append og (pv 8) (aa (sr K PySem.F.plainAttrs_list PySem.F.slot_list_pop PySem.F.type_list_pop CO (pv 3) (aa (bb (aW.mono (by decide)) hr rfl (aa (pv 0) (aa (aq (dE K) rfl T.n_len (by rfl) (aa (pv 3) ag)) ag))) ag)) ag)))))
  (ao (aM (pv 8)))))))),?_⟩
 refine⟨by show 2<=sizeLine;decide,fun l1 H1 n1=>gn ?_⟩
 have Ot:=(bx.cg n1.nn).1
 have OP:=(bx.cg n1.nn).2
 have gw:=(Step.refl bx).e9 n1
 refine⟨_,rfl,b,c,t,3,rfl,gw.bx,by omega,by omega,by decide,by decide,fun mo H2 mo0 mo1 bQ=>gn ?_⟩
 have vK:=bQ.old n1.at Ot OP
 have bQ:=gw.trans bQ
 dsimp only
 refine cz (t:=nO _ _ _) (Ni b c H t many most mo 13) (fun Nx nx =>?_) ?_
 ·refine⟨_,rfl,_,rfl,by omega,by omega,?_⟩
  refine mT (lo:=0) (n:=many.toNat) (fun i=>Ni b c H t many most mo (1+i)) ⟨[s0,s1],l1,_,_,_,_,rfl,by decide,by show(2:Int)<=many+mo+1;omega,Hh,?_,bQ.more (by omega),n1.nn,Ot,OP,vK⟩ ?_ ?_
  ·intro x hx
   simp at hx
   rcases hx with rfl|rfl
   ·exact BK (by omega)
   ·exact BD (by omega)
  ·intro i σ H3 hi
   refine ae.go ?_
   rintro cs l t3 x5 x6 x7 rfl yh hcm fr ok cS hl lb lc hW
   have OM:=cS.ub
   have yR:=cS.le
   have hlen:(cs.map V.str).length=cs.length:=Ja _
   have GF:∀{k:Nat} (hk:k<cs.length),(cs.map V.str)[k]? = some (.str cs[k]):=fun hk=>by rw[Jl,Jg hk];rfl
   dsimp only
   refine bW (te:=eO _ _ _ _ _ _) (fun v H'=>bO fun(ss:List Str) (p:Addr)=>v = .ref p/\dM H3 p (.lst (ss.map V.str)) H'/\ss.length<=cs.length/\∀x∈ss,x∈cs/\(x.length:Int)<most) (fun Qn qn =>?_) ?_
   ·refine⟨_,rfl,l,rfl,⟨_,aD.of hW⟩,?_⟩
    refine eR (N:=cs.length) (fun k ys H'=>H'=H3/\∃ss:List Str,ys=ss.map V.str/\ss.length<=k/\∀x∈ss,x∈cs/\(x.length:Int)<most) ⟨rfl,[],rfl,Jf _,(fun _ h=>nomatch h)⟩ ?_ ?_
    ·intro k ys H4 Ny hk hz_ ny
     refine ae.el hz_ _ ?_
     clear hz_
     rintro rfl ss rfl hss hs
     refine⟨⟨_,_,aD.of hW,GF hk⟩,by rw[Ja];omega,?_⟩
     rintro x H5 ⟨rfl,hy⟩
     have e:=hy _ (aD.of hW)
     rw[GF hk] at e;cases e
     have hle:=(ok _ (Jn hk)).le
     refine gn ⟨_,rfl,_,_,rfl,⟨sizeOk (by omega),rfl⟩,_,rfl,_,_,rfl,rfl,_,rfl,eX (fun e =>?_) (fun e=>ny _ _ ⟨rfl,ss,rfl,by omega,hs⟩)⟩
     have e:=of_decide_eq_true e
     refine⟨_,rfl,ny _ _ ⟨rfl,ss++[cs[k]],by rw[Jh];rfl,by rw[Je];show _+1<=_;omega,fun x hx =>?_⟩⟩
     rcases Ji.mp hx with hx|hx
     ·exact hs x hx
     ·rw[Jd.mp hx];exact⟨Jn hk,e⟩
    ·intro ys H4
     refine ae.go ?_
     rintro rfl ss rfl hss hs
     exact⟨⟨_,aD.of hW,by omega⟩,fun p H5 n5=>qn _ _ ⟨ss,p,rfl,n5,hss,hs⟩⟩
   intro v H4
   refine ae.go ?_
   rintro ss p rfl n4 hss hs
   refine gn ?_
   have Av:=n4.same _ _ hW
   have jR:=cS.e9 n4
   have pb:=(cS.bx.cg n4.nn).1
   have pc:=(cS.bx.cg n4.nn).2
   have rh:∀x∈ss,jo x:=fun x hx=>(ok x (hs x hx).1).bin
   refine⟨_,rfl,by show 0<=sizeLine;decide,fun p5 H5 n5 =>.inr ⟨_,_,Den.list (aD.of (n5.same _ _ n4.at)) (Den.strs _),Den.list (aD.of n5.at) (by unfold aO;rfl),oI rh,iH,_,rfl,?_⟩⟩
   rw[jq]
   have qO:=n5.same _ _ Av
   have qD:=n5.same _ _ n4.at
   have dz:=jR.e9 n5
   by_cases hss0:ss=[]
   ·have e:(!ss.isEmpty)=false:=by rw[hss0];rfl
    rw[e]
    exact bA (bA ⟨cs,l,_,_,_,_,rfl,yh,hcm,fr,ok,dz.more (by omega),hl,lb,lc,qO⟩)
   have e:(!ss.isEmpty)=true:=by cases ss with|nil=>exact absurd rfl hss0|cons _ _=>rfl
   rw[e]
   have GK:0<ss.length:=Uu.mpr hss0
   refine cj ⟨_,rfl,_,_,rfl,.inl ⟨_,aD.of qO,rfl⟩,_,rfl,_,rfl,.inl ⟨_,_,rfl,rfl,_,_,rfl,rfl,_,rfl,eX (fun e2 =>?_) (fun e2=>⟨cs,l,_,_,_,_,rfl,yh,hcm,fr,ok,dz.more (by omega),hl,lb,lc,qO⟩)⟩⟩
   have e2:(cs.length:Int)<many+mo:=by have:=of_decide_eq_true e2;rw[hlen] at this;exact this
   have P7:(ss.map V.str).length=ss.length:=Ja _
   refine⟨_,rfl,_,rfl,_,rfl,_,_,rfl,.inl ⟨_,aD.of qD,rfl⟩,b,c,_,_,rfl,dz.bx,by omega,by omega,by omega,by omega,fun r H6 r0 r1 qX =>?_⟩
   have jP:r.toNat<ss.length:=by omega
   have wA:=qX.old qD pb pc
   have BA:=qX.old qO lb lc
   have qX:=dz.trans qX
   have NV:rO (ss.map V.str) r=some (.str ss[r.toNat]):=m7 r0 (by rw[Jl,Jg jP];rfl)
   have fR:=(hs _ (Jn jP)).1
   have bN:=(hs _ (Jn jP)).2
   generalize ss[r.toNat]=x at NV fR bN
   refine .inl ⟨p,_,_,_,rfl,rfl,aD.of wA,NV,gn ?_⟩
   dsimp only
   refine⟨_,rfl,.inl ⟨rfl,_,aD.of BA⟩,_,rfl,l,cs,x,rfl,rfl,BA,fR,fun H7 c7 =>?_⟩
   have rn:=qX.A8 c7 hl lb lc
   have e0:s0.length=1:=by decide +kernel
   have e1:s1.length=1:=by decide +kernel
   refine⟨_,rfl,_,rfl,.inr (.inl ⟨_,_,rfl,rfl,sizeOk (by rw[e0];omega),_,rfl,.inr (.inl ⟨_,_,rfl,rfl,sizeOk (by rw[e1];omega),by show 2<=sizeLine;decide,fun p8 H8 n8 =>?_⟩)⟩)⟩
   have Ox:(cs.erase x).length=cs.length-1:=List.length_erase_of_mem fR
   refine .inr (.inr ⟨l,p8,_,_,rfl,rfl,n8.same _ _ c7.at,n8.at,by rw[Ja,Ox];exact sizeOk (by show _+2<=_;omega),fun p9 H9 n9=>gn ?_⟩)
   have vT:=rn.e9 n8
   have Qh:=(vT.bx.cg n9.nn).1
   have Ph:=(vT.bx.cg n9.nn).2
   have N8:=ok x fR
   refine⟨cs.erase x++[x++s0,x++s1],p9,_,_,_,_,rfl,by rw[Je];show _<=_+2;omega,?_,?_,fun y hy =>?_,(vT.e9 n9).more (by omega),vT.fresh bx n9.nn,Qh,Ph,?_⟩
   ·rw[Je,Ox]
    show(((cs.length-1+2:Nat)):Int)<=_
    omega
   ·have h2:ip (cs.erase x++x::[]):=fr.perm ((List.perm_cons_erase fR).trans (List.perm_append_singleton x _).symm)
    have h3:=ip.split h2
    rwa[Uo] at h3
   ·rcases Ji.mp hy with hy|hy
    ·exact ok y (List.mem_of_mem_erase hy)
    ·simp at hy
     rcases hy with rfl|rfl
     ·exact N8.KR (by omega)
     ·exact N8.Mx (by omega)
   ·rw[n9.at,Jh];rfl
  ·intro σ H3
   refine ae.go ?_
   rintro cs l t3 x5 x6 x7 rfl yh hcm fr ok cS hl lb lc hW
   exact nx _ _ ⟨cs,l,t3,x5,x6,x7,rfl,yh,hcm,fr,ok,cS.more (by omega),hl,lb,lc,hW⟩
 intro σ H3
 refine ae.go ?_
 rintro cs l t3 x5 x6 x7 rfl yh hcm fr ok cS hl lb lc hW
 have OM:=cS.ub
 have yR:=cS.le
 refine⟨by show 0<=sizeLine;decide,fun fp H4 n4=>gn ?_⟩
 dsimp only
 have hf:H fp=none:=cS.fresh bx n4.nn
 have fb:=(cS.bx.cg n4.nn).1
 have fc:=(cS.bx.cg n4.nn).2
 have lf:l≠fp:=fun z=>by have:=n4.nn;rw[<-z,hW] at this;cases this
 refine cz (t:=gL _ _) (fun σ H'=>fq fun(fs:List Str) (t':Int) (x3:Option V) =>σ=[some (.ref b),some (.int many),some (.int most),x3,some (.int mo),x5,x6,x7,some (.ref fp)]/\fs≠[]/\(fs.length:Int)<=many/\ip fs/\(∀x∈fs,bu most.toNat x)/\Step b c H H' t t' 40/\H' fp=some (.lst (fs.map V.str))) (fun Nx nx =>?_) ?_
 ·refine ie (fun m σ H'=>fq fun(fs ds:List Str) (t':Int)=>m=ds.length /\ σ=[some (.ref b),some (.int many),some (.int most),some (.ref l),some (.int mo),x5,x6,x7,some (.ref fp)]/\(fs++ds).Perm cs/\(fs.length:Int)<=many/\Step b c H H' t t' (13+fs.length)/\H' fp=some (.lst (fs.map V.str))/\H' l=some (.lst (ds.map V.str))) ⟨_,[],cs,t3,rfl,rfl,U4.refl _,by show(0:Int)<=_;omega,(cS.e9 n4).more (by show(9:Int)<=9+0;decide),n4.at,n4.same _ _ hW⟩ ?_
  intro m σ H5
  refine ae.go ?_
  rintro fs ds t5 rfl rfl pm hfl dz hf5 qO
  have LG:=dz.ub
  have LN:=dz.le
  have RO:fs.length+ds.length=cs.length:=by rw[<-Je];exact pm.length_eq
  have Q8:∀x∈ds,bu most.toNat x:=fun x hx=>ok x (pm.subset (Jj _ hx))
  have Kx:∀x∈fs,bu most.toNat x:=fun x hx=>ok x (pm.subset (Jx _ hx))
  have wj:ip fs:=(fr.perm pm.symm).sub (List.sublist_append_left _ _)
  have Q9:(ds.map V.str).length=ds.length:=Ja _
  have Cq:(fs.map V.str).length=fs.length:=Ja _
  have fin:∀{H':Hp},(ds=[]∨¬(fs.length:Int)<many)->Step b c H H' t t5 (13+fs.length)->H' fp=some (.lst (fs.map V.str))->Nx [some (.ref b),some (.int many),some (.int most),some (.ref l),some (.int mo),x5,x6,x7,some (.ref fp)] H':=fun{H'} DJ aE MU=>by
   refine nx _ _ ⟨fs,t5,_,rfl,fun z =>?_,hfl,wj,Kx,aE.more (by omega),MU⟩
   have hz:fs.length=0:=by rw[z];rfl
   rcases DJ with h|h
   ·have:ds.length=0:=by rw[h];rfl
    omega
   ·omega
  refine⟨_,rfl,by show 0<=sizeLine;decide,fun p6 H6 n6 =>.inr ⟨_,_,Den.list (aD.of (n6.same _ _ qO)) (Den.strs _),Den.list (aD.of n6.at) (by unfold aO;rfl),oI (fun x hx=>(Q8 x hx).bin),iH,_,rfl,?_⟩⟩
  rw[jq]
  have BA:=n6.same _ _ qO
  have Ft:=n6.same _ _ hf5
  have qX:=dz.e9 n6
  by_cases hds:ds=[]
  ·have e:(!ds.isEmpty)=false:=by rw[hds];rfl
   rw[e]
   exact bA (bA (fin (.inl hds) qX Ft))
  have e:(!ds.isEmpty)=true:=by cases ds with|nil=>exact absurd rfl hds|cons _ _=>rfl
  rw[e]
  have Rp:0<ds.length:=Uu.mpr hds
  refine cj ⟨_,rfl,_,_,rfl,.inl ⟨_,aD.of Ft,rfl⟩,_,rfl,_,_,rfl,rfl,_,rfl,eX (fun e2 =>?_) (fun e2=>fin (.inr fun z=>e2 (decide_eq_true (by rw[Cq];exact z))) qX Ft)⟩
  have e2:(fs.length:Int)<many:=by have:=of_decide_eq_true e2;rw[Cq] at this;exact this
  refine⟨fun σ' H'=>∃m',m'<ds.length/\_,fun _ _ h=>h,?_⟩
  refine⟨_,rfl,.inl ⟨rfl,_,aD.of Ft⟩,_,rfl,.inl ⟨rfl,_,aD.of BA⟩,_,rfl,_,rfl,_,_,rfl,.inl ⟨_,aD.of BA,rfl⟩,b,c,t5,_,rfl,qX.bx,by omega,by omega,by omega,by omega,fun a H7 a0 a1 rn =>?_⟩
  have Pk:=rn.old BA lb lc
  have Po:=rn.old Ft fb fc
  have rn:=qX.trans rn
  obtain⟨x,hx⟩:∃x,ds[a.toNat]? = some x:=⟨_,Jg (by omega)⟩
  refine⟨l,_,a,_,rfl,rfl,Pk,a0,by omega,by rw[Jl,hx];rfl,fun H8 c8 =>?_⟩
  have EH:H8 fp=some (.lst (fs.map V.str)):=by rw[c8.ne (Ne.symm lf)];exact Po
  have vT:=rn.A8 c8 hl lb lc
  refine⟨fp,_,_,rfl,rfl,EH,by rw[Cq];omega,fun H9 c9 =>?_⟩
  refine⟨(ds.eraseIdx a.toNat).length,by rw[List.length_eraseIdx_of_lt (by omega)];omega,fs++[x],ds.eraseIdx a.toNat,_,rfl,rfl,?_,by rw[Je];show((fs.length+1:Nat):Int)<=_;omega,(vT.A8 c9 hf fb fc).more (by rw[Je];show _<=(13:Int)+((fs.length+1:Nat):Int);omega),by rw[c9.at,Jh];rfl,by rw[c9.ne lf,c8.at,uX]⟩
  refine U4.trans ?_ pm
  rw[Uv]
  exact U4.append_left fs (yB hx).symm
 intro σ H5
 refine ae.go ?_
 rintro fs t5 x3 rfl hZ hfl wj Kx dz hf5
 exact⟨_,rfl,q fs fp H5 t5 hZ hfl wj Kx dz hf hf5⟩
end
def zg:Sp:=fun vs H Q _=>lU fun(b c:Addr) (t many:Int)=>vs=[.ref b,.int many]/\Bx H b c t/\0<=t/\t<1000000/\0<=many/\many<=26 /\
 ∀(xs:List Str) (l:Addr) (H':Hp) (t':Int),(xs.length:Int)=many->xs.Nodup->(∀x∈xs,x.length<=8/\∀ch∈x.cps.toList,ch<=122)->Step b c H H' t t' 300->H l=none->H' l=some (.lst (xs.map V.str))->Q (.ref l) H'
structure Lq (i:Nat)(x:Str):Prop extends tm i x where
 sm:∀ch∈x.cps.toList,ch<=122
section
variable {P:Program}{w:World}{K:Jc}{mg:Str->Option Value}{base:Heap}{f:Addr}{fd:FuncData}
theorem zq (F:cY K "_law_names" "_law_names" (top g6) f fd)(T:Nm mg)(aW:Fn P w K mg base 1 "_law_take" ["_law_state", "_law_many"] uB):bI P w K mg base fY 2 f fd ["_law_state", "_law_many"] zg:=by
 refine F.ok eC (fun vs H Q E h =>?_) (fun d9 A outer s H vs Q E hr h =>?_)
 ·obtain⟨b,c,t,many,rfl,_⟩:=h
  rfl
 unfold zg at h
 refine ae.el h _ ?_
 clear h
 rintro b c t many rfl bx t0 t1 m0 m1 q
 refine⟨_,(ah (aL (i:=2) eC.nd rfl (Or.inr rfl) bf)
  (ah (aL (i:=3) eC.nd rfl (Or.inl rfl) (eS ag))
  (ah (eY PassesOwn.never rfl (eJ rfl T.n_range (aa (pv 1) ag)) (ak (i:=4) eC.nd rfl (Or.inl rfl)) (ao (cX (sr K PySem.F.plainAttrs_list PySem.F.slot_list_append PySem.F.type_list_append og (pv 3) (aa (bj fz (sr K PySem.F.plainAttrs_str PySem.F.slot_str_join PySem.F.type_str_join (EG K) bf (aa (bg rfl (aK (Nc:=["_law_j"]) (Fc:=["_law_letters", "_law_state"]) (js:=[2,0])) (eJ rfl T.n_range (aa (bb (aW.mono (by decide)) hr rfl (aa (pv 0) (aa aw ag))) ag)) (aA (i:=0) (n:=1) (by decide)) (fun _ _ _ _ _=>(ak (i:=0) (dN ["_law_j", "_law_letters", "_law_state"]) rfl (Or.inl rfl))) (fun _ _ _ _ _=>aX) (fun _ _ _ _ _=>(ji (A3 K) (pv 1) (bb (aW.mono (by decide)) hr rfl (aa (pv 2) (aa aw ag))) (fun _ _=>rfl)))) ag)) (ji (A3 K) (pv 2) (pv 4) (fun _ _=>rfl))) ag)))))
  (ao (aM (pv 3)))))),?_⟩
 refine gn ⟨by show 0<=sizeLine;decide,fun l H2 n2=>gn ?_⟩
 have hl:H l=none:=n2.nn
 obtain⟨lb,lc⟩:=bx.cg n2.nn
 have bQ:Step b c H H2 t t 0:=(Step.refl bx).e9 n2
 refine⟨_,rfl,many,rfl,by omega,by omega,?_⟩
 refine mT (lo:=0) (n:=many.toNat) (fun i σ H'=>fq fun(xs:List Str) (t':Int) (x4:Option V) =>σ=[some (.ref b),some (.int many),some (.str KQ),some (.ref l),x4]/\xs.length=i /\
  (∀(j:Nat) x,xs[j]? = some x->Lq j x)/\Step b c H H' t t' (10*i)/\H' l=some (.lst (xs.map V.str))) ⟨[],t,_,rfl,rfl,by simp,by simpa using bQ,n2.at⟩ ?_ ?_
 ·intro i σ H3 hi
  refine ae.go ?_
  rintro xs t3 x4 rfl Bl hx cS hW
  have OM:=cS.ub
  have yR:=cS.le
  refine⟨_,rfl,.inl ⟨rfl,_,aD.of hW⟩,?_⟩
  refine⟨rfl,_,rfl,b,c,t3,8,rfl,cS.bx,by omega,by omega,by decide,by decide,fun m H4 m0 m1 jR =>?_⟩
  have Av:H4 l=some (.lst (xs.map V.str)):=jR.old hW lb lc
  have jR:=(cS.trans jR)
  refine⟨m,rfl,by omega,by omega,?_⟩
  refine aV (N:=m.toNat) (fun k ys H'=>bO fun(zs:List Str) (t':Int)=>ys=zs.map V.str/\zs.length=k/\(∀x∈zs,∃ch:Nat,x=⟨#[ch]⟩/\ch<=122)/\Step b c H H' t t' (10*i+1+k)/\H' l=some (.lst (xs.map V.str))) ⟨[],_,rfl,rfl,(fun _ h=>nomatch h),jR.more (by omega),Av⟩ ?_ ?_
  ·intro k ys H5 Nx hk hz_ nx
   refine ae.el hz_ _ ?_
   clear hz_
   rintro zs t5 rfl Iv hz dz qO
   have LG:=dz.ub
   have LN:=dz.le
   refine⟨hk,by rw[Ja,Iv];exact Jv (show k<1000 by omega) (by decide),?_⟩
   rintro x H6 ⟨rfl,rfl⟩
   refine⟨_,rfl,_,rfl,b,c,t5,26,rfl,dz.bx,by omega,by omega,by decide,by decide,fun d H7 d0 d1 rn =>?_⟩
   refine .inr (.inr ⟨_,d,_,rfl,rfl,by decide +kernel,yy d0 d1,nx _ _ ⟨zs++[⟨#[97+d.toNat]⟩],_,by rw[Jh];rfl,by rw[Je,Iv];rfl,fun x hx =>?_,(dz.trans rn).more (by omega),rn.old qO lb lc⟩⟩)
   rcases Ji.mp hx with h|h
   ·exact hz x h
   ·exact⟨_,Jd.mp h,by omega⟩
  ·intro ys H5
   refine ae.go ?_
   rintro zs t5 rfl Iv hz dz qO
   refine⟨Jf _,fun p hp=>⟨_,p,zs,rfl,rfl,aD.of ar,?_,?_⟩⟩
   ·rw[(lA fun x hx=>by obtain⟨k,e,_⟩:=hz x hx;exact⟨k,e⟩).2]
    show zs.length+zs.length*0<=16777216
    omega
   ·have hn:dM H5 p (.lst (zs.map V.str)) (upd H5 p (.lst (zs.map V.str))):=⟨hp,rfl⟩
    generalize upd H5 p (.lst (zs.map V.str))=H6 at hn ⊢
    have BA:=hn.same _ _ qO
    have qX:=dz.e9 hn
    have Ke:(Txt.join "" zs).length=zs.length:=by
     rw[str_len]
     rw[lg]
     exact(lA fun x hx=>by obtain⟨k,e,_⟩:=hz x hx;exact⟨k,e⟩).1
    have h0:0<=(0:Int)+i:=by omega
    have h1:(0:Int)+i<26:=by omega
    refine⟨_,rfl,_,rfl,.inr (.inr ⟨_,_,_,rfl,rfl,by decide +kernel,yy h0 h1,.inr (.inl ⟨_,_,rfl,rfl,by rw[len_one,Ke];exact sizeOk (by omega),l,_,_,rfl,rfl,BA,?_,fun H7 c7 =>?_⟩)⟩)⟩
    ·rw[Ja,Bl];exact Jv (show i<1000 by omega) (by decide)
    ·refine⟨xs++[Txt.join "" zs++⟨#[97+((0:Int)+i).toNat]⟩],t5,_,rfl,by rw[Je,Bl];rfl,fun j y hy =>?_,?_,?_⟩
     ·by_cases hj:j<xs.length
      ·rw[Ul hj] at hy
       exact hx j y hy
      ·rw[Ud (by omega)] at hy
       have e:j-xs.length=0:=by
        have:=(Jy.mp hy).1
        simp at this
        omega
       rw[e] at hy
       cases hy
       have ej:j=i:=by omega
       subst ej
       refine⟨⟨by rw[eW,len_one];omega,?_⟩,fun ch hc =>?_⟩
       rotate_left
       ·rw[bD] at hc
        rcases Ji.mp hc with hc|hc
        ·rw[lg] at hc
         refine ae.el (List.mem_flatMap.mp hc) _ ?_
         rintro u hu hc
         refine ae.el (hz u hu) _ ?_
         rintro k rfl hk
         have:ch∈[k]:=hc
         rw[Jd.mp this];exact hk
        ·have:ch∈[97+((0:Int)+j).toNat]:=hc
         rw[Jd.mp this];omega
       rw[bD,List.getLast?_append]
       have:((0:Int)+j).toNat=j:=by omega
       rw[this]
       rfl
     ·exact(qX.A8 c7 hl lb lc).more (by omega)
     ·rw[c7.at,Jh]
      rfl
 ·intro σ H3
  refine ae.go ?_
  rintro xs t3 x4 rfl Bl hx cS hW
  exact⟨_,rfl,q xs l H3 t3 (by omega) (tm.nodup fun i x h=>(hx i x h).totm) (fun x Hl=>by obtain⟨j,hj⟩:=U5.mp Hl;exact⟨(hx j x hj).le,(hx j x hj).sm⟩) (cS.more (by omega)) hl hW⟩
end
open PyProof.Rows
structure dB (bk:List (Str×Str)):Prop where
 le:bk.length<=16
 nm:(bk.map (·.1)).Nodup
 cd:∀q∈bk,bu 12 q.2
 nl:∀q∈bk,q.1.length<=8
 sm:∀q∈bk,∀ch∈q.1.cps.toList,ch<=122
theorem fG {x:Str}(p:Nat):sg (Txt.slice x (some (p:Int)) none)=(sg x).drop p:=by
 have key:∀p:Nat,p<=x.length->sg (Txt.slice x (some (p:Int)) none)=(sg x).drop p:=fun p h=>by
  rw[PyProof.Rows.slice_from_eq (b:=(x.length:Int)) (by omega) (by omega) rfl]
  show(((sg x).drop (p:Int).toNat).take ((x.length:Int)-p).toNat).toArray.toList=_
  rw[Yo,Wb]
  ·rfl
  ·rw[Uw,<-str_len];omega
 by_cases h:p<=x.length
 ·exact key p h
 ·have e:Txt.slice x (some (p:Int)) none=Txt.slice x (some ((x.length:Nat):Int)) none:=by
   unfold Txt.slice
   have:PySem.Builtin.Str.strSliceIndices (some (p:Int)) none 1 x.length=PySem.Builtin.Str.strSliceIndices (some ((x.length:Nat):Int)) none 1 x.length:=by
    unfold PySem.Builtin.Str.strSliceIndices
    dsimp only
    congr 1
    all_goals omega
   rw[this]
  rw[e,key _ (Jf _),List.drop_of_length_le (Yy (str_len x).symm),List.drop_of_length_le (by have:=str_len x;show(sg x).length<=p;change x.length=(sg x).length at this;omega)]
theorem bp {α:Type}[DecidableEq α]:∀{l m:List α},l.Nodup->(∀x∈l,x∈m)->l.length<=m.length
 | [],_,_,_=>Us _
 | a::l,m,nd,h=>by
  obtain⟨na,v8⟩:=U2.mp nd
  have hm:=h a Js
  have ih:=bp (l:=l) (m:=m.erase a) v8 fun x hx=>by
   have hZ:x≠a:=fun z=>na (z▸hx)
   exact(List.mem_erase_of_ne hZ).mpr (h x (Jq _ hx))
  rw[List.length_erase_of_mem hm] at ih
  have:0<m.length:=List.length_pos_of_mem hm
  rw[Jt]
  omega
theorem o8 {kvs:List (Key×V)}{k:Key}{v:V}(nd:(kvs.map (·.1)).Nodup)(h:(k,v)∈kvs):av kvs k=some v:=by
 induction kvs with
 | nil=>cases h
 | cons p r ih=>
  rw[Uc,U2] at nd
  rcases J5.mp h with rfl|h
  ·exact cw rfl
  ·rw[bZ fun z=>nd.1 (by rw[z];exact J8 (f:=(·.1)) h)]
   exact ih nd.2 h
theorem yc {kvs:List (Key×V)}{k:Key}{v w:V}(h:av kvs k=some w):(putK kvs k v).map (·.1)=kvs.map (·.1):=by
 unfold putK
 rw[dQ,h]
 rw[if_pos (show(some w).isSome=true from rfl),Ye]
 refine List.map_congr_left fun z _ =>?_
 show(if z.1=k then (z.1,v) else z).1=z.1
 split<;>rfl
def xq (x r:Str)(n:Nat):Prop:=∃a:Nat,1<=a/\a<n/\sg r=(sg x).drop a
def cW (B:List (Str×Str))(r:Str):Prop:=∃q∈B,xq q.2 r (sg q.2).length
noncomputable def dW (r:Str):Key×V:=(.inr r,.bl true)
theorem j8 {ts:List Str}(r:Str):putK (ts.map dW) (.inr r) (.bl true)=(if r∈ts then ts else ts++[r]).map dW:=by
 by_cases h:r∈ts
 ·rw[if_pos h]
  unfold putK
  rw[if_pos (List.any_eq_true.mpr ⟨dW r,J8 h,decide_eq_true rfl⟩),Ye]
  refine List.map_congr_left fun z _ =>?_
  show(if (dW z).1 = .inr r then ((dW z).1,V.bl true) else dW z)=dW z
  split<;>rfl
 ·rw[if_neg h,cP _ (iX fun y hy e=>h ?_),Jh]
  ·rfl
  ·have e:(Sum.inr y:Key) = .inr r:=e
   rw[<-Sum.inr.inj e];exact hy
theorem oo {ts:List Str}{r:Str}(h:ts.Nodup):(if r∈ts then ts else ts++[r]).Nodup:=by
 by_cases hr:r∈ts
 ·rw[if_pos hr];exact h
 ·rw[if_neg hr];exact tZ h hr
theorem kj {ts:List Str}{r x:Str}:x∈(if r∈ts then ts else ts++[r])↔x∈ts∨x=r:=by
 by_cases hr:r∈ts
 ·rw[if_pos hr]
  exact⟨.inl,fun h=>h.elim id fun e=>e▸hr⟩
 ·rw[if_neg hr,Ji,Jd]
theorem qj {ts:List Str}{r:Str}:(if r∈ts then ts else ts++[r]).length<=ts.length+1:=by
 split
 ·omega
 ·rw[Je];exact Jf _
def xU (K:Jc):Sp:=fun vs H Q _=>bO fun(l:Addr) (B:List (Str×Str))=>vs=[.ref l]/\vP K H B l/\dB B /\
 ∀(ts:List Str) (p:Addr) (H':Hp),au H H'->H p=none->H' p=some (.lst (ts.map V.str))->ts.Nodup->ts.length<=200->(∀r,r∈ts↔cW B r)->Q (.ref p) H'
section
variable {P:Program}{w:World}{K:Jc}{mg:Str->Option Value}{base:Heap}{f:Addr}{fd:FuncData}
theorem nq:aN ["book"] ["book"] (aB (top gH)):=⟨rfl,rfl,rfl,by decide +kernel,rfl,by decide +kernel,by decide +kernel⟩
theorem G3 (F:cY K "code_ends" "code_ends" (top gH) f fd)(T:Nm mg):bI P w K mg base fY 1 f fd ["book"] (xU K):=by
 refine F.ok nq (fun vs H Q E h =>?_) (fun d9 A outer s H vs Q E hr h =>?_)
 ·obtain⟨l,B,rfl,_⟩:=h
  rfl
 unfold xU at h
 refine ae.el h _ ?_
 clear h
 rintro l B rfl hB gB q
 have hle:=gB.le
 refine⟨_,(ao (aM (eI (ER rfl) rfl T.n_list (by rfl) (aa (vq rfl (aK (Nc:=["name", "code", "at"]) (Fc:=[]) (js:=[])) (gr K (pv 0)) (fD (aP (aA (i:=0) (n:=3) (by decide)) (aP (aA (i:=1) (n:=3) (by decide)) dH aF bh) aF (br aF bh))) (fun _ _ _ _ _=>(tupK K 2 rfl (aJ (ak (i:=0) (dN ["name", "code", "at"]) rfl (Or.inl rfl)) (aJ (ak (i:=1) (dN ["name", "code", "at"]) rfl (Or.inl rfl)) cB)))) (fun _ _ _ _ _=>(jv rfl T.n_range (aa aw (aa (aq (dE K) rfl T.n_len (by rfl) (aa (pv 1) ag)) ag)))) (fun _ _ _ _ _=>(ak (i:=2) (dN ["name", "code", "at"]) rfl (Or.inl rfl))) (fun _ _ _ _ _=>(cI (Ai K) (pv 1) (dj (pv 2)) dr)) (fun _ _ _ _ _=>ee)) ag)))),?_⟩
 obtain⟨vs,hl,hd⟩:=id hB
 have hlen:=nP hd
 refine⟨_,rfl,l,rfl,⟨_,hl⟩,fun D hD =>?_⟩
 refine⟨fun k m H'=>∃ts:List Str,m=B.length-k/\k<=B.length/\au H H'/\H' D=some (.dK (ts.map dW))/\ts.Nodup/\ts.length<=12*k/\∀r,r∈ts↔cW (B.take k) r,⟨_,[],rfl,Us _,aQ hD _,ar,Ws,Jf _,fun r=>⟨(fun h=>nomatch h),fun⟨q,hq,_⟩=>nomatch hq⟩⟩,?_⟩
 intro k m H1
 refine ae.go ?_
 rintro ts rfl hk sm hD1 nd tl mem
 by_cases bN:k<B.length
 ·refine .inr ⟨?_,?_⟩
  ·refine ae.el (qH hd bN) _ ?_
   rintro tp e1 e2
   exact⟨_,_,sm.seq hl,e1⟩
  rintro x H2 ⟨rfl,hy⟩
  refine ae.el (qH hd bN) _ ?_
  rintro tp e1 e2
  have e:=hy _ (sm.seq hl)
  rw[e1] at e;cases e
  have hc:=(gB.cd _ (Jn bN)).le
  have GK:=(gB.cd _ (Jn bN)).pos
  have cD:=aG bN
  generalize B[k]=z at e2 hc GK cD
  have A1:z.2.length=(sg z.2).length:=str_len _
  refine⟨tp,_,rfl,sm.i7 e2,rfl,_,_,rfl,_,_,rfl,rfl,?_⟩
  refine⟨rfl,?_⟩
  have old:∀{r:Str},cW (B.take (k+1)) r↔cW (B.take k) r∨xq z.2 r (sg z.2).length:=fun{r}=>by
   rw[cD]
   refine⟨fun⟨q,hq,h⟩=>?_,fun h =>?_⟩
   ·rcases Ji.mp hq with hq|hq
    ·exact .inl ⟨q,hq,h⟩
    ·rw[Jd.mp hq] at h;exact .inr h
   ·rcases h with ⟨q,hq,h⟩|h
    ·exact⟨q,Jx _ hq,h⟩
    ·exact⟨z,Jj _ (Jd.mpr rfl),h⟩
  refine⟨_,rfl,_,_,rfl,⟨sizeOk (by omega),rfl⟩,1,(z.2.length:Nat),rfl,⟨by omega,by omega,by omega,by omega⟩,?_⟩
  refine⟨fun k2 m2 H'=>∃us:List Str,m2=(z.2.length-1)-k2/\k2<=z.2.length-1/\au H H'/\H' D=some (.dK (us.map dW))/\us.Nodup/\us.length<=12*k+k2/\∀r,r∈us↔cW (B.take k) r∨xq z.2 r (1+k2),⟨_,ts,rfl,Us _,sm,hD1,nd,tl,fun r=>(mem r).trans ⟨.inl,fun h=>h.elim id fun⟨a,a1,a2,_⟩=>absurd a2 (by omega)⟩⟩,?_⟩
  intro k2 m2 H3
  refine ae.go ?_
  rintro us rfl hk2 Bf hD3 nd3 ul mem3
  by_cases h2:k2<z.2.length-1
  ·refine .inr ⟨by show k2<_;omega,?_⟩
   rintro y H4 ⟨rfl,rfl⟩
   refine⟨_,rfl,_,rfl,_,rfl,?_⟩
   dsimp only[fh]
   refine .inr ⟨z.2,rfl,sizeOk (by omega),?_⟩
   have es:=fG (x:=z.2) (1+k2)
   have ei:((1:Int)+(k2:Int))=((1+k2:Nat):Int):=by omega
   rw[ei]
   generalize Txt.slice z.2 (some ((1+k2:Nat):Int)) none=r at es
   refine⟨_,.inr r,hD3,rfl,?_,_,?_,_,rfl,h2,fun b o e =>?_,by rw[j8];exact ar,oo nd3,?_,fun x =>?_⟩
   ·rw[Ja];exact Ue (show us.length<=1000 by omega) (by decide)
   ·omega
   ·rw[aj (ai e hD)];exact Bf b o e
   ·have:=qj (ts:=us) (r:=r);omega
   ·rw[kj,mem3]
    refine⟨fun h =>?_,fun h =>?_⟩
    ·rcases h with (h|⟨a,a1,a2,a3⟩)|h
     ·exact .inl h
     ·exact .inr ⟨a,a1,by omega,a3⟩
     ·rw[h];exact .inr ⟨1+k2,by omega,by omega,es⟩
    ·rcases h with h|⟨a,a1,a2,a3⟩
     ·exact .inl (.inl h)
     ·by_cases ea:a=1+k2
      ·exact .inr (df (by rw[a3,es,ea]))
      ·exact .inl (.inr ⟨a,a1,by omega,a3⟩)
  ·have e2:k2=z.2.length-1:=by omega
   subst e2
   refine .inl ⟨by show _<=_;omega,_,?_,us,rfl,bN,Bf,hD3,nd3,by omega,fun r=>(mem3 r).trans ?_⟩
   ·omega
   ·rw[old,show 1+(z.2.length-1)=(sg z.2).length by omega]
 ·have e:k=B.length:=by omega
  subst e
  rw[J3] at mem
  refine .inl ⟨⟨_,sm.seq hl,by omega⟩,?_⟩
  refine⟨D,_,rfl,hD1,fun p H2 n2=>q ts p H2 (sm.trans n2.same) ?_ ?_ nd (by omega) mem⟩
  ·cases e:H p with
   | none=>rfl
   | some o=>have:=n2.nn;rw[sm _ _ e] at this;cases this
  ·have e:((ts.map dW).map fun q=>kV q.1)=ts.map V.str:=by rw[Ye];rfl
   rw[<-e];exact n2.at
end
noncomputable def je (a b:Str):V:=if Txt.startswith a b=true then .str (Txt.slice a (some (b.length:Nat)) none) else if Txt.startswith b a=true then .str (Txt.slice b (some (a.length:Nat)) none) else .non
def nM:Sp:=fun vs H Q _=>∃a b:Str,vs=[.str a,.str b]/\a.length<=1000000/\b.length<=1000000/\Q (je a b) H
section
variable {P:Program}{w:World}{K:Jc}{mg:Str->Option Value}{base:Heap}{f:Addr}{fd:FuncData}
theorem Ad:aN ["one", "other"] ["one", "other"] (aB (top jG)):=⟨rfl,rfl,rfl,by decide +kernel,rfl,by decide +kernel,by decide +kernel⟩
theorem Aw (F:cY K "rest_of" "rest_of" (top jG) f fd)(T:Nm mg):bI P w K mg base fY 1 f fd ["one", "other"] nM:=by
 refine F.ok Ad (fun vs H Q E h =>?_) (fun d9 A outer s H vs Q E hr h =>?_)
 ·obtain⟨a,b,rfl,_⟩:=h
  rfl
 unfold nM at h
 refine ae.el h _ ?_
 clear h
 rintro a b rfl ha hb q
 refine⟨_,(ah (cb (dc (sr K PySem.F.plainAttrs_str PySem.F.slot_str_startswith PySem.F.type_str_startswith ir (pv 0) (aa (pv 1) ag))) (ao (aM (cI (N7 K) (pv 0) (dj (aq (dE K) rfl T.n_len (by rfl) (aa (pv 1) ag))) dr))) ba)
  (ah (cb (dc (sr K PySem.F.plainAttrs_str PySem.F.slot_str_startswith PySem.F.type_str_startswith ir (pv 1) (aa (pv 0) ag))) (ao (aM (cI (N7 K) (pv 1) (dj (aq (dE K) rfl T.n_len (by rfl) (aa (pv 0) ag))) dr))) ba)
  (ao (aM d7)))),?_⟩
 unfold je at q
 refine⟨_,rfl,rfl,_,rfl,a,b,rfl,rfl,_,rfl,?_⟩
 refine eX (fun c =>?_) (fun c =>?_)
 ·rw[if_pos c] at q
  exact⟨_,rfl,_,rfl,_,_,rfl,⟨sizeOk (Ju hb (by decide)),rfl⟩,_,rfl,.inr ⟨a,rfl,sizeOk (Ju ha (by decide)),q⟩⟩
 ·rw[if_neg c] at q
  refine⟨_,rfl,rfl,_,rfl,b,a,rfl,rfl,_,rfl,?_⟩
  refine eX (fun c =>?_) (fun c =>?_)
  ·rw[if_pos c] at q
   exact⟨_,rfl,_,rfl,_,_,rfl,⟨sizeOk (Ju ha (by decide)),rfl⟩,_,rfl,.inr ⟨b,rfl,sizeOk (Ju hb (by decide)),q⟩⟩
  ·rw[if_neg c] at q
   exact q
end
def zK:Sp:=fun vs H Q _=>∃t:Str,vs=[.str t]/\t.length<=100000/\∀z H',dM H z (.tup [.int t.length,.str t]) H'->Q (.ref z) H'
section
variable {P:Program}{w:World}{K:Jc}{mg:Str->Option Value}{base:Heap}{f:Addr}{fd:FuncData}
theorem jX:aN ["text"] ["text"] (aB (top eV)):=⟨rfl,rfl,rfl,by decide +kernel,rfl,by decide +kernel,by decide +kernel⟩
theorem Et (F:cY K "length_first" "length_first" (top eV) f fd)(T:Nm mg):bI P w K mg base fY 1 f fd ["text"] zK:=by
 refine F.ok jX (fun vs H Q E h =>?_) (fun d9 A outer s H vs Q E hr h =>?_)
 ·obtain⟨t,rfl,_⟩:=h
  rfl
 unfold zK at h
 refine ae.el h _ ?_
 clear h
 rintro t rfl ht q
 refine⟨_,(ao (aM (fA (aa (aq (dE K) rfl T.n_len (by rfl) (aa (pv 0) ag)) (aa (pv 0) ag))))),?_⟩
 exact⟨_,rfl,_,_,rfl,⟨sizeOk (by omega),rfl⟩,_,rfl,by show 2<=sizeLine;decide,fun p H' n=>q p H' n⟩
end
def Bh (q:Str×Str)(x r:Str):Prop:=je x q.2 = .str r/\r ≠ ""
theorem yI (x y:Str):je x y = .non∨∃r,je x y = .str r:=by
 unfold je
 split
 ·exact .inr ⟨_,rfl⟩
 ·split
  ·exact .inr ⟨_,rfl⟩
  ·exact .inl rfl
noncomputable abbrev Kz:=Addr×(Str×Str)×Str
def BC (H:Hp)(z:Kz):Prop:=H z.1=some (.tup [.str z.2.1.1,.str z.2.1.2,.str z.2.2])
def vp (K:Jc):Sp:=fun vs H Q _=>fq fun(l:Addr) (x:Str) (B:List (Str×Str))=>vs=[.ref l,.str x]/\vP K H B l/\dB B/\x.length<=12 /\
 ∀(as:List Kz) (p:Addr) (H':Hp),au H H'->H p=none->H' p=some (.lst (as.map fun z=>V.ref z.1))->as.length<=16->(∀z∈as,BC H' z/\z.2.1∈B/\Bh z.2.1 x z.2.2)->(∀q∈B,∀r,Bh q x r->∃z∈as,z.2.1=q/\z.2.2=r)->Q (.ref p) H'
def Di (K:Jc):Sp:=fun vs H Q _=>bO fun(l:Addr) (B:List (Str×Str))=>vs=[.ref l]/\vP K H B l/\dB B /\
 ∀(ts:List Str) (p:Addr) (H':Hp),au H H'->H p=none->H' p=some (.lst (ts.map V.str))->ts.Nodup->ts.length<=200->(∀r,r∈ts↔cW B r)->Q (.ref p) H'
theorem cW.len {B:List (Str×Str)}(g:dB B){r:Str}(h:cW B r):r.length<=12/\1<=r.length:=by
 obtain⟨q,hq,a,a1,a2,e⟩:=h
 have h1:=(g.cd q hq).le
 have e1:q.2.length=(sg q.2).length:=str_len _
 have e2:r.length=(sg r).length:=str_len _
 rw[e,Uw] at e2
 omega
section
variable {P:Program}{w:World}{K:Jc}{mg:Str->Option Value}{base:Heap}{f:Addr}{fd:FuncData}
theorem sq:aN ["book"] ["book"] (aB (top jC)):=⟨rfl,rfl,rfl,by decide +kernel,rfl,by decide +kernel,by decide +kernel⟩
theorem gD:aN ["book", "lag", "rests"] ["book", "lag"] (aB (top fF)):=⟨rfl,rfl,rfl,by decide +kernel,rfl,by decide +kernel,by decide +kernel⟩
theorem GL (F:cY K "lags_behind" "lags_behind" (top fF) f fd)(T:Nm mg)(uT:Fn P w K mg base 1 "rest_of" ["one", "other"] nM):bI P w K mg base fY 2 f fd ["book", "lag"] (vp K):=by
 refine F.ok gD (fun vs H Q E h =>?_) (fun d9 A outer s H vs Q E hr h =>?_)
 ·obtain⟨l,x,B,rfl,_⟩:=h
  rfl
 unfold vp at h
 refine ae.el h _ ?_
 clear h
 rintro l x B rfl hB gB hx q
 have eZ:=hr.units
 have hle:=gB.le
 refine⟨_,(ah (bz (i:=2) gD.nd rfl (Or.inl rfl) rfl (aK (Nc:=["name", "code"]) (Fc:=["lag"]) (js:=[1])) (gr K (pv 0)) (fD (aP (aA (i:=0) (n:=2) (by decide)) (aP (aA (i:=1) (n:=2) (by decide)) dH aF bh) aF (br aF bh))) (fun _ _ _ _ _=>(tupK K 2 rfl (aJ (ak (i:=0) (dN ["name", "code", "lag"]) rfl (Or.inl rfl)) (aJ (ak (i:=1) (dN ["name", "code", "lag"]) rfl (Or.inl rfl)) cB)))) (fun _ _ _ _ _=>aX) (fun _ _ _ _ _=>(fA (aa (pv 0) (aa (pv 1) (aa (bb (uT.mono (by decide)) hr rfl (aa (pv 2) (aa (pv 1) ag))) ag))))))
  (ao (aM (bg rfl (aK (Nc:=["name", "code", "rest"]) (Fc:=[]) (js:=[])) (gr K (pv 2)) (fD (aP (aA (i:=0) (n:=3) (by decide)) (aP (aA (i:=1) (n:=3) (by decide)) (aP (aA (i:=2) (n:=3) (by decide)) dH aF bh) aF (br aF bh)) aF (br aF (br aF bh)))) (fun _ _ _ _ _=>(tupK K 3 rfl (aJ (ak (i:=0) (dN ["name", "code", "rest"]) rfl (Or.inl rfl)) (aJ (ak (i:=1) (dN ["name", "code", "rest"]) rfl (Or.inl rfl)) (aJ (ak (i:=2) (dN ["name", "code", "rest"]) rfl (Or.inl rfl)) cB))))) (fun _ _ _ _ _=>(dI (PW.pt (jj (aI ig (pv 2) d7 (aH _)) (hX (aI (oP K eZ) (pv 2) bf (aH _))))))) (fun _ _ _ _ _=>(fA (aa (pv 0) (aa (pv 1) (aa (pv 2) ag))))))))),?_⟩
 obtain⟨vs,hv,hd⟩:=id hB
 have hlen:=nP hd
 have small:∀{n:Nat},n<=1000->n<sizeLine:=fun h=>Ue h (by decide)
 refine bW (te:=eO _ _ _ _ _ _) (fun v H'=>bO fun(p:Addr) (bs:List Addr)=>v = .ref p/\au H H'/\H p=none/\H' p=some (.lst (bs.map V.ref))/\bs.length=B.length/\∀(i:Nat) (a:Addr) (hi:i<B.length),bs[i]? = some a->H' a=some (.tup [.str B[i].1,.str B[i].2,je x B[i].2])) (fun Qn qn =>?_) ?_
 ·refine⟨_,rfl,l,rfl,⟨_,hv⟩,?_⟩
  refine eR (N:=B.length) (fun i ys H'=>∃bs:List Addr,au H H'/\ys=bs.map V.ref/\bs.length=i/\∀(j:Nat) (a:Addr) (hj:j<B.length),bs[j]? = some a->H' a=some (.tup [.str B[j].1,.str B[j].2,je x B[j].2])) ⟨[],au.refl _,rfl,rfl,fun j a hj h=>nomatch h⟩ ?_ ?_
  ·intro i ys H1 Ny hi hz_ ny
   refine ae.el hz_ _ ?_
   clear hz_
   rintro bs s1 rfl bl hb
   refine ae.el (qH hd hi) _ ?_
   rintro tp e1 e2
   refine⟨⟨_,_,s1.seq hv,e1⟩,small (by rw[Ja];omega),?_⟩
   rintro y H2 ⟨rfl,hy⟩
   have e:=hy _ (s1.seq hv)
   rw[e1] at e;cases e
   have hc:=(gB.cd _ (Jn hi)).le
   refine⟨tp,_,rfl,s1.i7 e2,rfl,_,_,rfl,_,_,rfl,rfl,?_⟩
   refine⟨_,rfl,_,rfl,_,rfl,_,rfl,x,B[i].2,rfl,by omega,by omega,by show 3<=sizeLine;decide,fun a H3 n3=>ny _ _ ⟨bs++[a],s1.trans n3.same,by rw[Jh];rfl,by rw[Je,bl];rfl,fun j a' hj h =>?_⟩⟩
   by_cases hji:j<i
   ·rw[Ul (by omega)] at h
    exact n3.same _ _ (hb j a' hj h)
   ·rw[Ud (by omega),bl] at h
    have e0:j-i=0:=by
     cases hz:j-i with
     | zero=>rfl
     | succ k=>rw[hz] at h;cases h
    have ej:j=i:=by omega
    subst ej
    rw[e0] at h
    cases h
    exact n3.at
  ·intro ys H1
   refine ae.go ?_
   rintro bs s1 rfl bl hb
   refine⟨⟨_,s1.seq hv,by omega⟩,fun p H2 n2=>qn _ _ ⟨p,bs,rfl,s1.trans n2.same,?_,n2.at,bl,fun j a hj h=>n2.same _ _ (hb j a hj h)⟩⟩
   cases e:H p with
   | none=>rfl
   | some o=>have:=n2.nn;rw[s1 _ _ e] at this;cases this
 intro v H1
 refine ae.go ?_
 rintro p1 bs rfl s1 hp10 kb bl hb
 refine gn ?_
 have eE:∀{i:Nat} (hi:i<B.length),∃a,bs[i]? = some a/\(bs.map V.ref)[i]? = some (.ref a):=fun{i} hi=>⟨bs[i]'(by omega),Jg (by omega),by rw[Jl,Jg (by omega)];rfl⟩
 refine⟨_,rfl,p1,rfl,⟨_,aD.of kb⟩,?_⟩
 refine aV (N:=B.length) (fun i ys H'=>∃as:List Kz,au H1 H'/\ys=as.map (fun z=>V.ref z.1)/\as.length<=i/\(∀z∈as,BC H' z/\z.2.1∈B/\Bh z.2.1 x z.2.2)/\∀q∈B.take i,∀r,Bh q x r->∃z∈as,z.2.1=q/\z.2.2=r) ⟨[],au.refl _,rfl,Jf _,(fun z h=>nomatch h),fun q h=>nomatch h⟩ ?_ ?_
 ·intro i ys H2 Ny hi hz_ ny
  refine ae.el hz_ _ ?_
  clear hz_
  rintro as s2 rfl al ha hcv
  refine ae.el (eE hi) _ ?_
  rintro a ea ea'
  refine⟨⟨_,_,aD.of (s2 _ _ kb),ea'⟩,small (by rw[Ja];omega),?_⟩
  rintro y H3 ⟨rfl,hy⟩
  have e:=hy _ (aD.of (s2 _ _ kb))
  rw[ea'] at e;cases e
  have Np:=s2 _ _ (hb i a hi ea)
  have hm:=Jn hi
  have cD:=aG hi
  generalize B[i]=z at Np hm cD
  refine⟨a,_,rfl,fw.of Np,rfl,_,_,rfl,_,_,rfl,_,_,rfl,rfl,?_⟩
  rcases yI x z.2 with e|⟨r,e⟩
  ·rw[e]
   refine⟨_,rfl,.inl ⟨rfl,_,rfl,bA (ny _ _ ⟨as,s2,rfl,by omega,ha,fun q hq r' gu =>?_⟩)⟩⟩
   rw[cD] at hq
   rcases Ji.mp hq with hq|hq
   ·exact hcv q hq r' gu
   ·rw[Jd.mp hq] at gu
    have:=gu.1
    rw[e] at this;cases this
  ·rw[e]
   refine⟨_,rfl,.inl ⟨rfl,_,rfl,cj ?_⟩⟩
   have ed:(!decide (V.str r=V.str (Str.ofString ""))) = !decide (r = ""):=congrArg (! ·) (decide_eq_decide.mpr ⟨fun h=>(by injection h),fun h=>by rw[h]⟩)
   refine⟨_,rfl,.inl ⟨rfl,_,rfl,?_⟩⟩
   rw[ed]
   by_cases er:r = ""
   ·rw[decide_eq_true er]
    refine bA (ny _ _ ⟨as,s2,rfl,by omega,ha,fun q hq r' gu =>?_⟩)
    rw[cD] at hq
    rcases Ji.mp hq with hq|hq
    ·exact hcv q hq r' gu
    ·rw[Jd.mp hq] at gu
     have h1:=gu.1
     rw[e] at h1
     injection h1 with h1
     exact absurd (h1▸er) gu.2
   ·rw[decide_eq_false er]
    refine cj ⟨_,rfl,_,rfl,_,rfl,by show 3<=sizeLine;decide,fun a2 H4 n4=>ny _ _ ⟨as++[(a2,z,r)],s2.trans n4.same,by rw[Jh];rfl,by rw[Je];exact Wc al,fun y hy =>?_,fun q hq r' gu =>?_⟩⟩
    ·rcases Ji.mp hy with hy|hy
     ·obtain⟨h1,h2⟩:=ha y hy
      exact⟨n4.same _ _ h1,h2⟩
     ·rw[Jd.mp hy]
      exact⟨n4.at,hm,e,er⟩
    ·rw[cD] at hq
     rcases Ji.mp hq with hq|hq
     ·refine ae.el (hcv q hq r' gu) _ ?_
      rintro y hy eq ey
      exact⟨y,Jx _ hy,eq,ey⟩
     ·rw[Jd.mp hq] at gu
      have h1:=gu.1
      rw[e] at h1
      injection h1 with h1
      exact⟨(a2,z,r),Jj _ (Jd.mpr rfl),(Jd.mp hq).symm,h1⟩
 ·intro ys H2
  refine ae.go ?_
  rintro as s2 rfl al ha hcv
  rw[J3] at hcv
  refine⟨⟨_,aD.of (s2 _ _ kb),by rw[Ja];omega⟩,fun p3 we =>?_⟩
  have n3:dM H2 p3 (.lst (as.map fun z=>V.ref z.1)) (upd H2 p3 (.lst (as.map fun z=>V.ref z.1))):=⟨we,rfl⟩
  refine q as p3 _ ((s1.trans s2).trans n3.same) ?_ n3.at (by omega) (fun z hz=>⟨n3.same _ _ (ha z hz).1,(ha z hz).2⟩) hcv
  cases e:H p3 with
  | none=>rfl
  | some o=>rw[s2 _ _ (s1 _ _ e)] at we;cases we
end
theorem mn:∀(fs E:List Str),E.Nodup->∃N:List Str,dh (E.map dW) (fs.map dW)=(E++N).map dW/\(E++N).Nodup/\(∀x∈N,x∈fs)/\∀x,x∈E++N↔x∈E∨x∈fs
 | [],E,nd=>⟨[],by rw[Uo];rfl,by rw[Uo];exact nd,(fun x h=>nomatch h),fun x=>by rw[Uo];exact⟨.inl,fun h=>h.elim id fun h=>nomatch h⟩⟩
 | f::fs,E,nd=>by
  refine ae.el (mn fs (if f∈E then E else E++[f]) (oo nd)) _ ?_
  rintro N h1 h2 h3 h4
  have e:∃M,(if f∈E then E else E++[f])++N=E++M/\∀x∈M,x∈f::fs:=by
   by_cases hf:f∈E
   ·rw[if_pos hf];exact⟨N,rfl,fun x hx=>Jq _ (h3 x hx)⟩
   ·rw[if_neg hf,Uv]
    refine⟨[f]++N,rfl,fun x hx =>?_⟩
    rcases Ji.mp hx with hx|hx
    ·rw[Jd.mp hx];exact Js
    ·exact Jq _ (h3 x hx)
  refine ae.el (e) _ ?_
  rintro M e hM
  rw[e] at h1 h2 h4
  refine⟨M,?_,h2,hM,fun x=>(h4 x).trans ?_⟩
  ·rw[<-h1]
   show dh (putK (E.map dW) (.inr f) (.bl true)) (fs.map dW)=_
   rw[j8]
  ·rw[kj,J5]
   exact⟨fun h=>h.elim (fun h=>h.elim .inl fun h =>.inr (.inl h)) fun h =>.inr (.inr h),fun h=>h.elim (fun h =>.inl (.inl h)) fun h=>h.elim (fun h =>.inl (.inr h)) .inr⟩
def qZ (B:List (Str×Str))(E:List Str):Prop:=∀E1 r E2,E=E1++r::E2->∀q∈B,∀r',Bh q r r'->r'∈E1
theorem qZ.more {B:List (Str×Str)}{E N:List Str}(h:qZ B E)(hN:∀r∈N,∀q∈B,∀r',Bh q r r'->r'∈E):qZ B (E++N):=by
 intro E1 r E2 e q hq r' hb
 rcases List.append_eq_append_iff.mp e with ⟨as,h1,h2⟩|⟨cs,h1,h2⟩
 ·rw[h1]
  exact Jx _ (hN r (by rw[h2];exact Jj _ Js) q hq r' hb)
 ·cases cs with
  | nil=>
   rw[Uo] at h1
   rw[<-h1]
   exact hN r (by rw[<-List.nil_append N,<-h2];exact Js) q hq r' hb
  | cons c cs=>
   obtain⟨rfl,_⟩:=List.cons.inj h2
   exact h E1 r cs h1 q hq r' hb
theorem oW (E:List Str):(E.map dW).map (·.1)=E.map Sum.inr:=by rw[Ye];rfl
theorem iz {E:List Str}{r:Str}:(av (E.map dW) (.inr r)).isSome=true↔r∈E:=by
 cases hv:av (E.map dW) (.inr r) with
 | none=>
  refine⟨(fun h=>nomatch h),fun h=>absurd ?_ (gQ hv)⟩
  rw[oW];exact J8 h
 | some v=>
  refine⟨fun _ =>?_,fun _=>rfl⟩
  have:=oB hv
  rw[oW] at this
  refine ae.el (J0.mp this) _ ?_
  rintro x hx e
  rw[<-Sum.inr.inj e];exact hx
def AY (K:Jc):Sp:=fun vs H Q _=>bO fun(l:Addr) (B:List (Str×Str))=>vs=[.ref l]/\vP K H B l/\dB B /\
 ∀(d:Addr) (E:List Str) (H':Hp),au H H'->H d=none->H' d=some (.dK (E.map dW))->E.Nodup->qZ B E->(∀r∈E,cW B r)->(∀r,cW B r->r∉E->∃q∈B,∃r',Bh q r r'/\r'∉E)->Q (.ref d) H'
def iT (B:List (Str×Str))(H:Hp)(zs:List (Str×Addr)):Prop:=∀z∈zs,∃ls:List Str,H z.2=some (.lst (ls.map V.str))/\ls.length<=16/\∀r,r∈ls ↔ ∃q∈B,Bh q z.1 r
theorem iT.same {B:List (Str×Str)}{H H':Hp}{zs:List (Str×Addr)}(h:iT B H zs)(s:au H H'):iT B H' zs:=fun z hz=>by
 obtain⟨ls,h1,h2⟩:=h z hz
 exact⟨ls,s _ _ h1,h2⟩
theorem iT.off {B:List (Str×Str)}{H H':Hp}{zs:List (Str×Addr)}{d:Addr}{kvs:List (Key×V)}(h:iT B H zs)(hd:H d=some (.dK kvs))(s:jT H d (.dK kvs) H'∨∃k2,jT H d (.dK k2) H'):iT B H' zs:=fun z hz=>by
 obtain⟨ls,h1,h2⟩:=h z hz
 refine⟨ls,?_,h2⟩
 have ne:z.2≠d:=fun e=>by rw[e,hd] at h1;cases h1
 rcases s with s|⟨k2,s⟩
 ·rw[s.ne ne];exact h1
 ·rw[s.ne ne];exact h1
noncomputable def CA (z:Str×Addr):Key×V:=(.inr z.1,.ref z.2)
section
variable {P:Program}{w:World}{K:Jc}{mg:Str->Option Value}{base:Heap}{f:Addr}{fd:FuncData}
theorem bF:aN ["book", "left", "laters", "ending", "found"] ["book"] (aB (top fE)):=⟨rfl,rfl,rfl,by decide +kernel,rfl,by decide +kernel,by decide +kernel⟩
theorem Ez (F:cY K "ending_lags" "ending_lags" (top fE) f fd)(T:Nm mg)(jK:Fn P w K mg base 4 "lags_of" ["book"] (Di K))(cR:Fn P w K mg base 2 "lags_behind" ["book", "lag"] (vp K)):bI P w K mg base fY 5 f fd ["book"] (AY K):=by
 refine F.ok bF (fun vs H Q E h =>?_) (fun d9 A outer s H vs Q E hr h =>?_)
 ·obtain⟨l,B,rfl,_⟩:=h
  rfl
 unfold AY at h
 refine ae.el h _ ?_
 clear h
 rintro l B rfl hB gB q
 have hu:=gA hr
 have hle:=gB.le
 have small:∀{n:Nat},n<=1000->n<sizeLine:=fun h=>Ue h (by decide)
 refine⟨_,(ah (aL (i:=1) bF.nd rfl (Or.inl rfl) (bb (jK.mono (by decide)) hr rfl (aa (pv 0) ag)))
  (ah (aL (i:=2) bF.nd rfl (Or.inr rfl) (kY rfl (aK (Nc:=["lag"]) (Fc:=["book"]) (js:=[0])) (gr K (pv 1)) (aA (i:=0) (n:=1) (by decide)) (fun _ _ _ _ _=>(ak (i:=0) (dN ["lag", "book"]) rfl (Or.inl rfl))) (fun _ _ _ _ _=>aX) (fun _ _ _ _ _=>(pv 0)) (fun _ _ _ _ _=>(bg rfl (aK (Nc:=["name", "code", "later"]) (Fc:=[]) (js:=[])) (gr K (bb (cR.mono (by decide)) hr rfl (aa (pv 1) (aa (pv 0) ag)))) (fD (aP (aA (i:=0) (n:=3) (by decide)) (aP (aA (i:=1) (n:=3) (by decide)) (aP (aA (i:=2) (n:=3) (by decide)) dH aF bh) aF (br aF bh)) aF (br aF (br aF bh)))) (fun _ _ _ _ _=>(tupK K 3 rfl (aJ (ak (i:=0) (dN ["name", "code", "later"]) rfl (Or.inl rfl)) (aJ (ak (i:=1) (dN ["name", "code", "later"]) rfl (Or.inl rfl)) (aJ (ak (i:=2) (dN ["name", "code", "later"]) rfl (Or.inl rfl)) cB))))) (fun _ _ _ _ _=>aX) (fun _ _ _ _ _=>(pv 2))))))
  (ah (aL (i:=3) bF.nd rfl (Or.inr rfl) qg)
  (ah (aL (i:=4) bF.nd rfl (Or.inl rfl) (eI (BH K) rfl T.n_list (by rfl) (aa (pv 1) ag)))
  (ah (fJ PassesOwn.never (xS (pv 4) fun _=>rfl) (ah (bz (i:=4) bF.nd rfl (Or.inl rfl) rfl (aK (Nc:=["lag"]) (Fc:=["ending", "laters"]) (js:=[3,2])) (gr K (pv 1)) (aA (i:=0) (n:=1) (by decide)) (fun _ _ _ _ _=>(ak (i:=0) (dN ["lag", "ending", "laters"]) rfl (Or.inl rfl))) (fun _ _ _ _ _=>(dI (dc (aq (rD K rfl) rfl T.n_all (by rfl) (aa (bg rfl (aK (Nc:=["later"]) (Fc:=["ending"]) (js:=[1])) (gr K (bL hu (pv 2) (pv 0) (fun _ _=>rfl))) (aA (i:=0) (n:=1) (by decide)) (fun _ _ _ _ _=>(ak (i:=0) (dN ["later", "ending"]) rfl (Or.inl rfl))) (fun _ _ _ _ _=>aX) (fun _ _ _ _ _=>(oN (kh hu (pv 0) (pv 1))))) ag))))) (fun _ _ _ _ _=>(pv 0)))
  (ah (cX (sr K PySem.F.plainAttrs_dict PySem.F.slot_dict_update PySem.F.type_dict_update zt (pv 3) (aa (kY rfl (aK (Nc:=["lag"]) (Fc:=[]) (js:=[])) (gr K (pv 4)) (aA (i:=0) (n:=1) (by decide)) (fun _ _ _ _ _=>(ak (i:=0) (dN ["lag"]) rfl (Or.inl rfl))) (fun _ _ _ _ _=>aX) (fun _ _ _ _ _=>(pv 0)) (fun _ _ _ _ _=>ee)) ag)))
  (ao (bz (i:=1) bF.nd rfl (Or.inl rfl) rfl (aK (Nc:=["lag"]) (Fc:=["ending"]) (js:=[3])) (gr K (pv 1)) (aA (i:=0) (n:=1) (by decide)) (fun _ _ _ _ _=>(ak (i:=0) (dN ["lag", "ending"]) rfl (Or.inl rfl))) (fun _ _ _ _ _=>(dI (jI (fI hu (pv 0) (pv 1))))) (fun _ _ _ _ _=>(pv 0)))))))
  (ao (aM (pv 3)))))))),?_⟩
 refine⟨_,rfl,l,B,rfl,hB,gB,fun ts p1 H1 s1 hp10 kb nd tl mem=>gn ?_⟩
 have eE:∀{xs:List Str} {i:Nat} (hi:i<xs.length),(xs.map V.str)[i]? = some (.str xs[i]):=fun hi=>by rw[Jl,Jg hi];rfl
 dsimp only
 refine bW (te:=kX _ _ _ _ _ _ _) (fun v H'=>bO fun(D:Addr) (zs:List (Str×Addr))=>v = .ref D/\au H1 H'/\H1 D=none/\H' D=some (.dK (zs.map CA))/\zs.map (·.1)=ts/\iT B H' zs) (fun Qn qn =>?_) ?_
 ·refine⟨_,rfl,p1,rfl,⟨_,aD.of kb⟩,fun D hD =>?_⟩
  refine⟨fun i m H'=>∃zs:List (Str×Addr),m=ts.length-i/\i<=ts.length/\au H1 H'/\H' D=some (.dK (zs.map CA))/\zs.map (·.1)=ts.take i/\iT B H' zs,⟨_,[],rfl,Us _,aQ hD _,ar,rfl,fun z hz=>nomatch hz⟩,?_⟩
  intro i m H2
  refine ae.go ?_
  rintro zs rfl hi s2 hD2 ez lt2
  by_cases bN:i<ts.length
  ·refine .inr ⟨⟨_,_,aD.of (s2 _ _ kb),eE bN⟩,?_⟩
   rintro y H3 ⟨rfl,hy⟩
   have e:=hy _ (aD.of (s2 _ _ kb))
   rw[eE bN] at e;cases e
   refine gn ?_
   dsimp only[fP]
   rw[if_pos rfl]
   have eh:=((mem _).mp (Jn bN)).len gB
   have cD:=aG bN
   have rG:ts[i]∉ts.take i:=fun h=>by
    refine ae.el (Yb.mp h) _ ?_
    rintro j hj ej
    rw[J6] at hj
    rw[List.getElem_take] at ej
    have:=(List.getElem_inj nd).mp ej
    omega
   generalize ts[i]=x at eh cD rG
   refine⟨_,rfl,_,rfl,_,rfl,l,x,B,rfl,hB.same (s1.trans s2),gB,by omega,fun as p4 H4 s4 hp40 sv al ha hcv =>?_⟩
   have B0:∀{j:Nat} (hj:j<as.length),(as.map fun z=>V.ref z.1)[j]? = some (.ref as[j].1):=fun hj=>by rw[Jl,Jg hj];rfl
   refine⟨p4,rfl,⟨_,aD.of sv⟩,?_⟩
   refine aV (N:=as.length) (fun j ys H'=>H'=H4/\ys=((as.take j).map (·.2.2)).map V.str) ⟨rfl,rfl⟩ ?_ ?_
   ·rintro j ys H5 Ny hj ⟨rfl,rfl⟩ ny
    refine⟨⟨_,_,aD.of sv,B0 hj⟩,small (by rw[Ja,Ja,J6];omega),?_⟩
    rintro y H6 ⟨rfl,hy⟩
    have e:=hy _ (aD.of sv)
    rw[B0 hj] at e;cases e
    have hz:=(ha _ (Jn hj)).1
    refine⟨_,_,rfl,fw.of hz,rfl,_,_,rfl,_,_,rfl,_,_,rfl,rfl,_,rfl,ny _ _ ⟨rfl,?_⟩⟩
    rw[aG hj,Jh,Jh];rfl
   ·rintro ys H5 ⟨rfl,rfl⟩
    refine⟨⟨_,aD.of sv,by rw[Ja];exact Jf _⟩,fun p6 wA =>?_⟩
    rw[J3]
    have n6:dM H5 p6 (.lst ((as.map (·.2.2)).map V.str)) (upd H5 p6 (.lst ((as.map (·.2.2)).map V.str))):=⟨wA,rfl⟩
    generalize upd H5 p6 (.lst ((as.map (·.2.2)).map V.str))=H6 at n6 ⊢
    have Iy:=s4.trans n6.same
    have zl:zs.length=i:=by
     have:=congrArg J9 ez
     rw[Ja,J6] at this
     omega
    refine⟨zs.map CA,.inr x,Iy _ _ hD2,rfl,small (by rw[Ja];omega),ts.length-(i+1),by omega,zs++[(x,p6)],rfl,bN,fun b o e =>?_,?_,by rw[Jh,cD,ez];rfl,fun z hz =>?_⟩
    ·rw[aj (ai e hD)];exact Iy _ _ (s2 b o e)
    ·rw[cP _ (iX fun y hy e=>rG ?_),Jh]
     ·exact ar
     ·rw[<-ez]
      have e:(Sum.inr y.1:Key) = .inr x:=e
      rw[<-Sum.inr.inj e]
      exact J8 hy
    ·have keep:∀{a:Addr} {o:List V},H6 a=some (.lst o)->upd H6 D (.dK (putK (zs.map CA) (.inr x) (.ref p6))) a=some (.lst o):=fun{a o} e=>by
      rw[aj (fun z=>by rw[z,Iy _ _ hD2] at e;cases e)];exact e
     rcases Ji.mp hz with hz|hz
     ·obtain⟨ls,h1,h2⟩:=lt2 z hz
      exact⟨ls,keep (Iy _ _ h1),h2⟩
     ·rw[Jd.mp hz]
      refine⟨as.map (·.2.2),keep n6.at,by rw[Ja];exact al,fun r=>⟨fun h =>?_,fun⟨q,hq,h⟩=>?_⟩⟩
      ·refine ae.el (J0.mp h) _ ?_
       rintro y hy rfl
       refine ae.el (ha y hy) _ ?_
       rintro _ h1 h2
       exact⟨_,h1,h2⟩
      ·refine ae.el (hcv q hq r h) _ ?_
       rintro y hy _ e
       exact J0.mpr ⟨y,hy,e⟩
  ·have e:i=ts.length:=by omega
   subst e
   rw[J3] at ez
   exact .inl ⟨⟨_,aD.of (s2 _ _ kb),by rw[Ja];exact Jf _⟩,qn _ _ ⟨D,zs,rfl,s2,hD,hD2,ez,lt2⟩⟩
 intro v H2
 refine ae.go ?_
 rintro D zs rfl s2 hD0 hD2 ez lt2
 refine gn ?_
 refine fun d H3 n3=>gn ?_
 have OH:=s2.trans n3.same
 have kF:H d=none:=by
  cases e:H d with
  | none=>rfl
  | some o=>have:=n3.nn;rw[s2 _ _ (s1 _ _ e)] at this;cases this
 have dD:D≠d:=ai hD2 n3.nn
 refine⟨_,rfl,p1,_,rfl,.inl (aD.of (OH _ _ kb)),fun fp0 H4 n4=>gn ?_⟩
 have NZ:=OH.trans n4.same
 rw[show(List.set _ _ _:L2.St)=[some (.ref l),some (.ref p1),some (.ref D),some (.ref d),some (.ref fp0)] from rfl]
 have IL:∀{r:Str},r∈ts->∃a,av (zs.map CA) (.inr r)=some (.ref a)/\(r,a)∈zs:=fun{r} hr=>by
  rw[<-ez] at hr
  refine ae.el (J0.mp hr) _ ?_
  rintro z hz rfl
  refine⟨z.2,o8 ?_ (J0.mpr ⟨z,hz,rfl⟩),hz⟩
  have:(zs.map CA).map (·.1)=(zs.map (·.1)).map Sum.inr:=by rw[Ye,Ye];rfl
  rw[this,ez]
  exact U9.mpr (List.pairwise_map.mpr ((U9.mp nd).imp fun h e=>h (Sum.inr.inj e)))
 dsimp only
 let J:Nat->L2.St->Hp->Prop:=fun m σ H'=>Ej fun(lp fp:Addr) (left fs E:List Str) =>σ=[some (.ref l),some (.ref lp),some (.ref D),some (.ref d),some (.ref fp)]/\m=2*left.length+(if fs=[] then 0 else 1)/\au H H'/\H' lp=some (.lst (left.map V.str))/\H' fp=some (.lst (fs.map V.str))/\fs.length<=200/\left.length<=200/\H' d=some (.dK (E.map dW))/\H' D=some (.dK (zs.map CA))/\iT B H' zs/\E.Nodup/\qZ B E/\(∀r∈E,cW B r)/\(∀r∈left,cW B r/\r∉E)/\(∀r,cW B r->r∈left∨r∈E)/\(fs=[]->∀r∈left,∃q∈B,∃r',Bh q r r'/\r'∉E)
 refine cz (t:=gL _ _) (fun σ H'=>fq fun(lp fp:Addr) (E:List Str) =>σ=[some (.ref l),some (.ref lp),some (.ref D),some (.ref d),some (.ref fp)]/\au H H'/\H' d=some (.dK (E.map dW))/\E.Nodup/\qZ B E/\(∀r∈E,cW B r)/\∀r,cW B r->r∉E->∃q∈B,∃r',Bh q r r'/\r'∉E) (fun Nx nx =>?_) ?_
 ·refine ie J ⟨_,p1,fp0,ts,ts,[],rfl,rfl,s1.trans NZ,NZ _ _ kb,n4.at,tl,tl,n4.same _ _ n3.at,n4.same _ _ (n3.same _ _ hD2),(lt2.same n3.same).same n4.same,Ws,(fun E1 r E2 e=>by cases E1<;>cases e),(fun r h=>nomatch h),fun r h=>⟨(mem r).mp h,(fun h=>nomatch h)⟩,fun r h =>.inl ((mem r).mpr h),fun h r hr=>by rw[h] at hr;cases hr⟩ ?_
  intro m σ H5
  refine ae.go ?_
  rintro lp fp left fs E rfl rfl s5 hlp hfp fl ll rA hD5 lt5 nd5 ord e1 e2 e3 e4
  have Qu:D≠d:=dD
  refine⟨_,rfl, !(fs.map V.str).isEmpty,.inl ⟨_,aD.of hfp,rfl⟩,?_⟩
  by_cases hfs:fs=[]
  ·rw[hfs]
   exact bA (nx _ _ ⟨lp,fp,E,rfl,s5,rA,nd5,ord,e1,fun r hr hn=>e4 hfs r ((e3 r hr).resolve_right hn)⟩)
  ·have eT:(!(fs.map V.str).isEmpty)=true:=by cases fs with|nil=>exact absurd rfl hfs|cons _ _=>rfl
   rw[eT,if_neg hfs]
   refine cj ⟨fun σ' H'=>∃m',m'<2*left.length+1/\J m' σ' H',fun _ _ h=>h,?_⟩
   have HX:∀{H':Hp} {r:Str},H' d=some (.dK (E.map dW))->cK H' d (.str r) (av (E.map dW) (.inr r)):=fun h =>.inl ⟨_,.inr _,.inl h,rfl,rfl⟩
   refine bW (te:=eO _ _ _ _ _ _) (fun v H'=>bO fun(BP:Addr) (oq:List Str)=>v = .ref BP/\au H5 H'/\H5 BP=none/\H' BP=some (.lst (oq.map V.str))/\oq.length<=left.length/\∀r,r∈oq↔r∈left/\∀q∈B,∀r',Bh q r r'->r'∈E) (fun Qn qn =>?_) ?_
   ·refine⟨_,rfl,lp,rfl,⟨_,aD.of hlp⟩,?_⟩
    refine eR (N:=left.length) (fun i ys H'=>∃us:List Str,au H5 H'/\ys=us.map V.str/\us.length<=i/\∀r,r∈us↔r∈left.take i/\∀q∈B,∀r',Bh q r r'->r'∈E) ⟨[],au.refl _,rfl,Jf _,fun r=>⟨(fun h=>nomatch h),fun h=>nomatch h.1⟩⟩ ?_ ?_
    ·intro i ys H6 Ny hi hz_ ny
     refine ae.el hz_ _ ?_
     clear hz_
     rintro us s6 rfl ul um
     refine⟨⟨_,_,aD.of (s6 _ _ hlp),eE hi⟩,small (by rw[Ja];omega),?_⟩
     rintro y H7 ⟨rfl,hy⟩
     have e:=hy _ (aD.of (s6 _ _ hlp))
     rw[eE hi] at e;cases e
     have eh:=(e2 _ (Jn hi)).1
     have cD:=aG hi
     generalize left[i]=x at eh cD
     refine ae.el (IL ((mem x).mpr eh)) _ ?_
     rintro a va hza
     refine ae.el ((lt5.same s6) _ hza) _ ?_
     rintro ls h1 h2 h3
     refine gn ⟨_,rfl,_,rfl,D,.ref a,rfl,.inl ⟨_,.inr x,.inl (s6 _ _ hD5),rfl,va.symm⟩,a,rfl,⟨_,aD.of h1⟩,?_⟩
     refine aV (N:=ls.length) (fun j ys H'=>H'=H7/\ys=((ls.take j).map fun r=>(av (E.map dW) (.inr r)).isSome).map V.bl) ⟨rfl,rfl⟩ ?_ ?_
     ·rintro j ys H8 Nz hj ⟨rfl,rfl⟩ nz
      refine⟨⟨_,_,aD.of h1,eE hj⟩,small (by rw[Ja,Ja,J6];omega),?_⟩
      rintro y H9 ⟨rfl,hy⟩
      have e:=hy _ (aD.of h1)
      rw[eE hj] at e;cases e
      refine gn ⟨_,rfl,_,rfl,d,av (E.map dW) (.inr ls[j]),rfl,HX (s6 _ _ rA),nz _ _ ⟨rfl,?_⟩⟩
      rw[aG hj,Jh,Jh];rfl
     ·rintro ys H8 ⟨rfl,rfl⟩
      refine⟨⟨_,aD.of h1,by rw[Ja];exact Jf _⟩,fun p9 oQ =>?_⟩
      rw[J3]
      have n9:dM H8 p9 (.lst ((ls.map fun r=>(av (E.map dW) (.inr r)).isSome).map V.bl)) (upd H8 p9 (.lst ((ls.map fun r=>(av (E.map dW) (.inr r)).isSome).map V.bl))):=⟨oQ,rfl⟩
      generalize upd H8 p9 (.lst ((ls.map fun r=>(av (E.map dW) (.inr r)).isSome).map V.bl))=H9 at n9 ⊢
      refine⟨p9,_,rfl,aD.of n9.at,_,rfl,?_⟩
      have yU:(ls.map fun r=>(av (E.map dW) (.inr r)).isSome).all id=true ↔ ∀q∈B,∀r',Bh q x r'->r'∈E:=by
       rw[List.all_map,Y3]
       exact⟨fun h q hq r' hb=>iz.mp (h r' ((h3 r').mpr ⟨q,hq,hb⟩)),fun h r' jP=>by
        refine ae.el ((h3 r').mp jP) _ ?_
        rintro q hq hb
        exact iz.mpr (h q hq r' hb)⟩
      have NH:∀{r:Str},(r∈left.take (i+1)/\∀q∈B,∀r',Bh q r r'->r'∈E)↔(r∈us∨(r=x/\∀q∈B,∀r',Bh q r r'->r'∈E)):=fun{r}=>by
       rw[cD,Ji,Jd,um]
       exact⟨fun⟨h,g⟩=>h.elim (fun h =>.inl ⟨h,g⟩) fun h =>.inr ⟨h,g⟩,fun h=>h.elim (fun h=>⟨.inl h.1,h.2⟩) fun h=>⟨.inr h.1,h.2⟩⟩
      refine eX (fun c=>⟨_,rfl,ny _ _ ⟨us++[x],s6.trans n9.same,by rw[Jh];rfl,by rw[Je];exact Wc ul,fun r =>?_⟩⟩) (fun c=>ny _ _ ⟨us,s6.trans n9.same,rfl,by omega,fun r =>?_⟩)
      ·rw[NH,Ji,Jd]
       exact or_congr Iff.rfl ⟨fun h=>⟨h,h▸yU.mp c⟩,fun h=>h.1⟩
      ·rw[NH]
       exact⟨.inl,fun h=>h.elim id fun h=>absurd (yU.mpr (h.1▸h.2)) c⟩
    ·intro ys H6
     refine ae.go ?_
     rintro us s6 rfl ul um
     rw[J3] at um
     refine⟨⟨_,aD.of (s6 _ _ hlp),by rw[Ja];exact Jf _⟩,fun p7 H7 n7=>qn _ _ ⟨p7,us,rfl,s6.trans n7.same,?_,n7.at,ul,um⟩⟩
     cases e:H5 p7 with
     | none=>rfl
     | some o=>have:=n7.nn;rw[s6 _ _ e] at this;cases this
   intro v H6
   refine ae.go ?_
   rintro BP oq rfl s6 hfp0 hfp' fl' fm'
   refine gn ?_
   have uG:=s6 _ _ rA
   have P2:BP≠d:=fun z=>by rw[z,uG] at hfp';cases hfp'
   refine⟨_,rfl,.inr (.inr (.inl ⟨rfl,.inl ⟨_,uG⟩⟩)),?_⟩
   refine⟨_,rfl,BP,rfl,⟨_,aD.of hfp'⟩,fun D2 hD2' =>?_⟩
   have O3:d≠D2:=fun z=>by rw[z,hD2'] at uG;cases uG
   have Qo:H5 D2=none:=by
    cases e:H5 D2 with
    | none=>rfl
    | some o=>rw[s6 _ _ e] at hD2';cases hD2'
   refine⟨fun i m H'=>∃us:List Str,m=oq.length-i/\i<=oq.length/\au H6 H'/\H' D2=some (.dK (us.map dW))/\us.length<=i/\∀r,r∈us↔r∈oq.take i,⟨_,[],rfl,Us _,aQ hD2' _,ar,Jf _,fun r=>⟨(fun h=>nomatch h),fun h=>nomatch h⟩⟩,?_⟩
   intro i m H7
   refine ae.go ?_
   rintro us rfl hi s7 hD7 ul um
   by_cases bN:i<oq.length
   ·refine .inr ⟨⟨_,_,aD.of (s7 _ _ hfp'),eE bN⟩,?_⟩
    rintro y H8 ⟨rfl,hy⟩
    have e:=hy _ (aD.of (s7 _ _ hfp'))
    rw[eE bN] at e;cases e
    refine gn ?_
    dsimp only[fP]
    rw[if_pos rfl]
    have cD:=aG bN
    generalize oq[i]=x at cD
    refine⟨_,rfl,us.map dW,.inr x,hD7,rfl,small (by rw[Ja];omega),oq.length-(i+1),by omega,_,rfl,bN,fun b o e =>?_,by rw[j8];exact ar,?_,fun r =>?_⟩
    ·rw[aj (ai e hD2')];exact s7 b o e
    ·have:=qj (ts:=us) (r:=x);omega
    ·rw[kj,cD,Ji,Jd,um]
   have ei:i=oq.length:=by omega
   subst ei
   rw[J3] at um
   refine .inl ⟨⟨_,aD.of (s7 _ _ hfp'),by rw[Ja];exact Jf _⟩,?_⟩
   have tG:=s7 _ _ uG
   have El:E.length<=200:=Ju (bp nd5 fun x hx=>(mem x).mpr (e1 x hx)) tl
   refine⟨d,D2,_,_,rfl,rfl,O3,tG,hD7,by rw[Ja,Ja];exact sizeOk (by omega),?_⟩
   refine ae.el (mn us E nd5) _ ?_
   rintro N h1 h2 hN h3
   have Gf:qZ B (E++N):=ord.more fun r hr=>((fm' r).mp (List.mem_of_mem_take (i:=oq.length) (by rw[J3];exact(um r).mp (hN r hr)))).2
   rw[h1]
   generalize E++N=E' at h1 h2 h3 Gf
   have c8:jT H7 d (.dK (E'.map dW)) (upd H7 d (.dK (E'.map dW))):=⟨rfl⟩
   generalize upd H7 d (.dK (E'.map dW))=H8 at c8
   have HU:∀x,x∈E'↔x∈E∨x∈oq:=fun x=>by rw[h3,um]
   have JJ:=s6.trans s7
   have keep:∀{a:Addr} {o:HO},a≠d->H5 a=some o->H8 a=some o:=fun ne e=>by rw[c8.ne ne];exact JJ _ _ e
   have O0:lp≠d:=fun z=>by rw[z,rA] at hlp;cases hlp
   have nN:=keep O0 hlp
   have QX:=keep Qu hD5
   have Qk:au H H8:=fun b o e=>by rw[c8.ne (ai e kF)];exact JJ _ _ (s5 b o e)
   have PU:iT B H8 zs:=(lt5.same JJ).off tG (.inr ⟨_,c8⟩)
   have JI:H8 BP=some (.lst (oq.map V.str)):=by rw[c8.ne P2];exact s7 _ _ hfp'
   dsimp only
   refine Cv (te:=eO _ _ _ _ _ _) (fun v H'=>∃lp',v = .ref lp'/\dM H8 lp' (.lst ((left.filter fun r => !(av (E'.map dW) (.inr r)).isSome).map V.str)) H') (fun Qn qn =>?_) ?_
   ·refine⟨_,rfl,lp,rfl,⟨_,aD.of nN⟩,?_⟩
    refine eR (N:=left.length) (fun i ys H'=>H'=H8/\ys=((left.take i).filter fun r => !(av (E'.map dW) (.inr r)).isSome).map V.str) ⟨rfl,rfl⟩ ?_ ?_
    ·rintro i ys H9 Ny iV ⟨rfl,rfl⟩ ny
     refine⟨⟨_,_,aD.of nN,eE iV⟩,?_,?_⟩
     ·rw[Ja]
      have h1:=Yj (fun r => !(av (E'.map dW) (.inr r)).isSome) (left.take i)
      rw[J6] at h1
      exact small (by omega)
     rintro y H10 ⟨rfl,hy⟩
     have e:=hy _ (aD.of nN)
     rw[eE iV] at e;cases e
     have cD:=aG iV
     generalize left[i]=x at cD
     cases hv:av (E'.map dW) (.inr x) with
     | none=>
      refine gn ⟨_,rfl,_,rfl,d,none,rfl,.inl ⟨_,.inr x,.inl c8.at,rfl,hv.symm⟩,_,rfl,cj ⟨_,rfl,ny _ _ ⟨rfl,?_⟩⟩⟩
      rw[cD,List.filter_append,U3,hv,if_pos (by rfl),Jh];rfl
     | some v=>
      refine gn ⟨_,rfl,_,rfl,d,some v,rfl,.inl ⟨_,.inr x,.inl c8.at,rfl,hv.symm⟩,_,rfl,bA (ny _ _ ⟨rfl,?_⟩)⟩
      rw[cD,List.filter_append,U3,hv,if_neg (fun z=>nomatch z),List.filter_nil,Uo]
    ·rintro ys H9 ⟨rfl,rfl⟩
     refine⟨⟨_,aD.of nN,by rw[Ja];exact Jf _⟩,fun p H' n=>qn _ _ ⟨p,rfl,?_⟩⟩
     rw[J3] at n
     exact n
   intro v H9
   refine ae.go ?_
   rintro lp' rfl n9
   refine gn ?_
   have pI:∀r,r∈left.filter (fun r => !(av (E'.map dW) (.inr r)).isSome)↔r∈left/\r∉E':=fun r=>by
    rw[Wg]
    refine and_congr Iff.rfl ⟨fun h z =>?_,fun h =>?_⟩
    ·rw[iz.mpr z] at h;cases h
    ·cases hs:(av (E'.map dW) (.inr r)).isSome with
     | false=>rfl
     | true=>exact absurd (iz.mp hs) h
   have RL:=Yj (fun r => !(av (E'.map dW) (.inr r)).isSome) left
   refine⟨2*(left.filter fun r => !(av (E'.map dW) (.inr r)).isSome).length+(if oq=[] then 0 else 1),?_,lp',BP,_,oq,E',rfl,rfl,Qk.trans n9.same,n9.at,n9.same _ _ JI,by omega,by omega,n9.same _ _ c8.at,n9.same _ _ QX,PU.same n9.same,h2,Gf,fun r hr =>?_,fun r hr =>?_,fun r hr =>?_,fun hE r hr =>?_⟩
   ·by_cases hf:oq=[]
    ·rw[if_pos hf];omega
    ·rw[if_neg hf]
     obtain⟨x,hx⟩:=List.exists_mem_of_ne_nil _ hf
     have:(left.filter fun r => !(av (E'.map dW) (.inr r)).isSome).length<left.length:=by
      refine List.length_filter_lt_length_iff_exists.mpr ⟨x,((fm' x).mp hx).1,?_⟩
      rw[iz.mpr ((HU x).mpr (.inr hx))];decide
     omega
   ·rcases(HU r).mp hr with h|h
    ·exact e1 r h
    ·exact(e2 r ((fm' r).mp h).1).1
   ·obtain⟨a1,a2⟩:=(pI r).mp hr
    exact⟨(e2 r a1).1,a2⟩
   ·rcases e3 r hr with h|h
    ·by_cases z:r∈E'
     ·exact .inr z
     ·exact .inl ((pI r).mpr ⟨h,z⟩)
    ·exact .inr ((HU r).mpr (.inl h))
   ·obtain⟨a1,a2⟩:=(pI r).mp hr
    have sT:¬ ∀q∈B,∀r',Bh q r r'->r'∈E:=fun h=>by
     have:=(fm' r).mpr ⟨a1,h⟩
     rw[hE] at this;cases this
    refine Classical.byContradiction fun z=>sT fun q hq r' hb =>?_
    refine Classical.byContradiction fun hn=>z ⟨q,hq,r',hb,fun h =>?_⟩
    rcases(HU r').mp h with h|h
    ·exact hn h
    ·rw[hE] at h;cases h
 intro σ H5
 refine ae.go ?_
 rintro lp fp E rfl s5 rA nd5 ord e1 e2
 exact⟨_,rfl,q d E H5 s5 kF rA nd5 ord e1 e2⟩
end
def qp (K:Jc):Sp:=fun vs H Q _=>bO fun(l:Addr) (B:List (Str×Str))=>vs=[.ref l]/\vP K H B l/\dB B /\
 ∀(ts:List Str) (p:Addr) (H':Hp),au H H'->H p=none->H' p=some (.lst (ts.map V.str))->ts.Nodup->ts.length<=200->(∀r,r∈ts↔cW B r)->ts.Pairwise (fun a b =>¬ff b a)->Q (.ref p) H'
theorem cW.CT {B:List (Str×Str)}(g:dB B){r:Str}(h:cW B r):r.length<=12/\1<=r.length:=by
 obtain⟨q,hq,a,a1,a2,e⟩:=h
 have h1:=(g.cd q hq).le
 have e1:q.2.length=(sg q.2).length:=str_len _
 have e2:r.length=(sg r).length:=str_len _
 rw[e,Uw] at e2
 omega
theorem zz {K:Jc}{vs:List V}{H:Hp}{Q:VK}{E:XK}(h:Di K vs H Q E):qp K vs H Q E:=by
 obtain⟨l,B,e,hB,g,q⟩:=h
 exact⟨l,B,e,hB,g,fun ts p H' s h1 h2 nd tl mem _=>q ts p H' s h1 h2 nd tl mem⟩
section
variable {P:Program}{w:World}{K:Jc}{mg:Str->Option Value}{base:Heap}{f:Addr}{fd:FuncData}
theorem DD (F:cY K "lags_of" "lags_of" (top jC) f fd)(T:Nm mg)(de:mg "sorted" = none)(gY:Fn P w K mg base 1 "code_ends" ["book"] (xU K))(kQ:Fn P w K mg base 1 "length_first" ["text"] zK):bI P w K mg base fY 4 f fd ["book"] (qp K):=by
 obtain⟨ky_length_first,fdk,FK_length_first,BK_length_first,_,GK_length_first⟩:=kQ.ex
 refine F.ok sq (fun vs H Q E h =>?_) (fun d9 A outer s H vs Q E hr h =>?_)
 ·obtain⟨l,B,rfl,_⟩:=h
  rfl
 unfold qp at h
 refine ae.el h _ ?_
 clear h
 rintro l B rfl hB gB q
 refine⟨_,(ao (aM (jt (xQ K (Cw FK_length_first (hr.mono (by decide)) BK_length_first)) rfl de (by rfl) (aa (bb (gY.mono (by decide)) hr rfl (aa (pv 0) ag)) ag) (oG (tE (v := .ref ky_length_first) rfl GK_length_first rfl) rX)))),?_⟩
 refine⟨_,rfl,l,B,rfl,hB,gB,fun ts p H1 s1 M9 kb nd tl mem =>?_⟩
 refine⟨p,ts,rfl,rfl,aD.of kb,fun t ht Hj =>?_,fun us p2 H2 perm pw s2 nW h2 =>?_⟩
 ·have:=((mem t).mp ht).CT gB
  exact⟨t,rfl,by omega,fun z H' n=>⟨z,rfl,n⟩⟩
 ·refine q us p2 H2 (s1.trans s2) ?_ h2 (perm.nodup_iff.mpr nd) (by rw[perm.length_eq];exact tl) (fun r=>(perm.mem_iff).trans (mem r)) pw
  cases e:H p2 with
  | none=>rfl
  | some o=>rw[s1 _ _ e] at nW;cases nW
end
noncomputable abbrev Sg:=List Nat
noncomputable def nx (cs:List Sg)(p:Sg×Sg):List (Sg×Sg):=
 if p.1.head? ≠ p.2.head? ∨ p.1=[] then [] else if p.1.length=1/\p.2.length=1 then [([],[])] else
  (if 1<p.1.length then [p.1.tail] else cs).flatMap fun f=>(if 1<p.2.length then [p.2.tail] else cs).map fun s=>(f,s)
def jg (P:Nat->Prop)(v:Option Nat):Prop:=(v=none/\∀a,¬P a)∨∃m,v=some m/\P m/\∀a,P a->a<=m
theorem jg.congr {P Q:Nat->Prop}{v:Option Nat}(h:jg P v)(e:∀a,P a↔Q a):jg Q v:=by
 rcases h with ⟨rfl,h⟩|⟨m,rfl,h,h'⟩
 ·exact .inl ⟨rfl,fun a z=>h a ((e a).mpr z)⟩
 ·exact .inr ⟨m,rfl,(e m).mp h,fun a z=>h' a ((e a).mpr z)⟩
theorem jg.up {P:Nat->Prop}{v:Option Nat}(h:jg P v)(n:Nat):jg (fun a=>∃d,P d/\a=d+n) (v.map (· + n)):=by
 rcases h with ⟨rfl,h⟩|⟨m,rfl,h,h'⟩
 ·exact .inl ⟨rfl,fun a ⟨d,z,_⟩=>h d z⟩
 ·exact .inr ⟨m+n,rfl,⟨m,h,rfl⟩,fun a ⟨d,z,e⟩=>by have:=h' d z;omega⟩
def qA (S:Nat->Prop)(m:Nat):Prop:=(m=0∨S m)/\∀a,S a->a<=m
inductive Wv (cs:List Sg):Sg×Sg->Option Nat->Prop
 | fin:Wv cs ([],[]) (some 0)
 | step (p:Sg×Sg) (f:Sg×Sg->Option Nat) (v:Option Nat) (h1:p.1≠[]) (h2:p.2≠[]) (h:∀q∈nx cs p,Wv cs q (f q)) (t:jg (fun a=>∃q∈nx cs p,∃d,f q=some d/\a=d+1) v):Wv cs p v
theorem Wv.next {cs:List Sg}{p q:Sg×Sg}{v:Option Nat}(h:Wv cs p v)(hq:q∈nx cs p):∃u,Wv cs q u:=by
 cases h with
 | fin=>simp[nx] at hq
 | step p f v h1 h2 h t=>exact⟨_,h q hq⟩
section
variable {cs:List Sg}{a b:Nat}{x y:Sg}
theorem Bd (h:a≠b):nx cs (a::x,b::y)=[]:=by
 unfold nx;rw[if_pos (.inl fun e=>h (by simpa using e))]
theorem xG:nx cs ([a],[a])=[([],[])]:=by
 unfold nx;rw[if_neg (by simp),if_pos (by simp)]
theorem CW (h:y≠[]):nx cs ([a],a::y)=cs.map fun c=>(c,y):=by
 have hl:0<y.length:=Uu.mpr h
 unfold nx
 rw[if_neg (by simp),if_neg (by simp[h])]
 dsimp only
 rw[if_neg (show ¬ 1<[a].length by simp),if_pos (show 1<(a::y).length by rw[Jt];omega)]
 show cs.flatMap (fun f=>[(f,y)])=_
 induction cs with
 | nil=>rfl
 | cons c cs ih=>rw[List.flatMap_cons,ih];rfl
theorem Cr (h:x≠[]):nx cs (a::x,[a])=cs.map fun c=>(x,c):=by
 have hl:0<x.length:=Uu.mpr h
 unfold nx
 rw[if_neg (by simp),if_neg (by simp[h])]
 dsimp only
 rw[if_pos (show 1<(a::x).length by rw[Jt];omega),if_neg (show ¬ 1<[a].length by simp)]
 simp
theorem nH (h:x≠[])(h':y≠[]):nx cs (a::x,a::y)=[(x,y)]:=by
 have hl:0<x.length:=Uu.mpr h
 have iK:0<y.length:=Uu.mpr h'
 unfold nx
 rw[if_neg (by simp),if_neg (by simp[h])]
 dsimp only
 rw[if_pos (show 1<(a::x).length by rw[Jt];omega),if_pos (show 1<(a::y).length by rw[Jt];omega)]
 rfl
theorem Wv.sign {w:Option Nat}(h:x≠[])(h':y≠[])(g:Wv cs (x,y) w):Wv cs (a::x,a::y) (w.map (· + 1)):=by
 refine .step _ (fun _=>w) _ (by simp) (by simp) (fun q hq =>?_) ?_
 ·rw[nH h h',Jd] at hq
  rw[hq];exact g
 ·rw[nH h h']
  cases w with
  | none=>exact .inl ⟨rfl,fun a ⟨q,hq,d,e,_⟩=>nomatch e⟩
  | some m=>exact .inr ⟨m+1,rfl,⟨_,Jd.mpr rfl,m,rfl,rfl⟩,fun a ⟨q,hq,d,e,ea⟩=>by cases e;omega⟩
theorem Wv.pre {w:Option Nat}(h:x≠[])(h':y≠[])(g:Wv cs (x,y) w):∀(u:Sg),Wv cs (u++x,u++y) (w.map (· + u.length))
 | []=>by simpa using g
 | a::u=>by
  have:=Wv.sign (a:=a) (x:=u++x) (y:=u++y) (by simp[h]) (by simp[h']) (Wv.pre h h' g u)
  rw[Option.map_map] at this
  have e:((fun n=>n+1)∘fun n=>n+u.length)=fun n:Nat=>n+(a::u).length:=by
   funext n;simp;omega
  rw[e] at this
  exact this
theorem Wv.miss (h:a≠b)(u:Sg):Wv cs (u++a::x,u++b::y) none:=by
 have g:Wv cs (a::x,b::y) none:=by
  refine .step _ (fun _=>none) _ (by simp) (by simp) (fun q hq =>?_) (.inl ⟨rfl,fun a ⟨q,hq,_⟩=>?_⟩)
  ·rw[Bd h] at hq;cases hq
  ·rw[Bd h] at hq;cases hq
 exact Wv.pre (by simp) (by simp) g u
theorem Wv.self (h:x≠[]):Wv cs (x,x) (some x.length):=by
 obtain⟨u,a,rfl⟩:∃u a,x=u++[a]:=⟨_,_,(Yt h).symm⟩
 have g:Wv cs ([a],[a]) (some 1):=by
  refine .step _ (fun _=>some 0) _ (by simp) (by simp) (fun q hq =>?_) ?_
  ·rw[xG,Jd] at hq
   rw[hq];exact .fin
  ·rw[xG]
   exact .inr ⟨1,rfl,⟨_,Jd.mpr rfl,0,rfl,rfl⟩,fun a ⟨q,hq,d,e,ea⟩=>by cases e;omega⟩
 have:=Wv.pre (by simp) (by simp) g u
 rw[Je]
 simpa [Nat.add_comm] using this
theorem Wv.over {r:Sg}{g:Sg->Option Nat}{v:Option Nat}(hr:r≠[])(h:∀c∈cs,Wv cs (r,c) (g c))(t:jg (fun a=>∃c∈cs,g c=some a) v){u:Sg}(hu:u≠[]):Wv cs (u++r,u) (v.map (· + u.length)):=by
 obtain⟨u,a,rfl⟩:∃w a,u=w++[a]:=⟨_,_,(Yt hu).symm⟩
 have g1:Wv cs (a::r,[a]) (v.map (· + 1)):=by
  refine .step _ (fun q=>g q.2) _ (by simp) (by simp) (fun q hq =>?_) ((t.up 1).congr fun n =>?_)
  ·rw[Cr hr] at hq
   obtain⟨c,hc,rfl⟩:=J0.mp hq
   exact h c hc
  ·rw[Cr hr]
   exact⟨fun⟨d,⟨c,hc,e⟩,ea⟩=>⟨(r,c),J0.mpr ⟨c,hc,rfl⟩,d,e,ea⟩,fun⟨q,hq,d,e,ea⟩=>by
    obtain⟨c,hc,rfl⟩:=J0.mp hq
    exact⟨d,⟨c,hc,e⟩,ea⟩⟩
 have:=Wv.pre (by simp) (by simp) g1 u
 rw[Option.map_map] at this
 have e:((fun n=>n+u.length)∘fun n=>n+1)=fun n:Nat=>n+(u++[a]).length:=by
  funext n;simp;omega
 rw[e] at this
 simpa using this
theorem Wv.Bw {r:Sg}{g:Sg->Option Nat}{v:Option Nat}(hr:r≠[])(h:∀c∈cs,Wv cs (c,r) (g c))(t:jg (fun a=>∃c∈cs,g c=some a) v){u:Sg}(hu:u≠[]):Wv cs (u,u++r) (v.map (· + u.length)):=by
 obtain⟨u,a,rfl⟩:∃w a,u=w++[a]:=⟨_,_,(Yt hu).symm⟩
 have g1:Wv cs ([a],a::r) (v.map (· + 1)):=by
  refine .step _ (fun q=>g q.1) _ (by simp) (by simp) (fun q hq =>?_) ((t.up 1).congr fun n =>?_)
  ·rw[CW hr] at hq
   obtain⟨c,hc,rfl⟩:=J0.mp hq
   exact h c hc
  ·rw[CW hr]
   exact⟨fun⟨d,⟨c,hc,e⟩,ea⟩=>⟨(c,r),J0.mpr ⟨c,hc,rfl⟩,d,e,ea⟩,fun⟨q,hq,d,e,ea⟩=>by
    obtain⟨c,hc,rfl⟩:=J0.mp hq
    exact⟨d,⟨c,hc,e⟩,ea⟩⟩
 have:=Wv.pre (by simp) (by simp) g1 u
 rw[Option.map_map] at this
 have e:((fun n=>n+u.length)∘fun n=>n+1)=fun n:Nat=>n+(u++[a]).length:=by
  funext n;simp;omega
 rw[e] at this
 simpa using this
end
def Lt (c x r:Sg):Prop:=r≠[]/\(x=c++r∨c=x++r)
inductive En (cs:List Sg):Sg->Prop
 | mk (x:Sg) (h:∀c∈cs,∀r,Lt c x r->En cs r):En cs x
inductive Dl (cs:List Sg):Sg->Option Nat->Prop
 | mk (x:Sg) (f:Sg->Option Nat) (v:Option Nat) (h:∀c∈cs,∀r,Lt c x r->Dl cs r (f r)) (t:jg (fun a=>(x∈cs/\a=x.length)∨∃c∈cs,∃r d,Lt c x r/\f r=some d/\a=min x.length c.length+d) v):Dl cs x v
theorem Lt.one {c x r r':Sg}(h:Lt c x r)(h':Lt c x r'):r=r':=by
 obtain⟨n,h⟩:=h
 obtain⟨n',h'⟩:=h'
 have l1:0<r.length:=Uu.mpr n
 have l2:0<r'.length:=Uu.mpr n'
 rcases h with h|h<;>rcases h' with h'|h'
 ·rw[h] at h';exact U0 h'
 ·have z1:=congrArg J9 h;have z2:=congrArg J9 h';rw[Je] at z1 z2;omega
 ·have z1:=congrArg J9 h;have z2:=congrArg J9 h';rw[Je] at z1 z2;omega
 ·rw[h] at h';exact U0 h'
theorem pE:∀(x c:Sg),x=c∨(∃r,Lt c x r)∨∃u a b x' c',a≠b/\x=u++a::x'/\c=u++b::c'
 | [],[] =>.inl rfl
 | [],b::c =>.inr (.inl ⟨b::c,by simp,.inr rfl⟩)
 | a::x,[] =>.inr (.inl ⟨a::x,by simp,.inl rfl⟩)
 | a::x,b::c=>by
  by_cases h:a=b
  ·subst h
   rcases pE x c with h|⟨r,n,h|h⟩|⟨u,d,e,x',c',ne,h1,h2⟩
   ·exact .inl (by rw[h])
   ·exact .inr (.inl ⟨r,n,.inl (by rw[h];rfl)⟩)
   ·exact .inr (.inl ⟨r,n,.inr (by rw[h];rfl)⟩)
   ·exact .inr (.inr ⟨a::u,d,e,x',c',ne,by rw[h1];rfl,by rw[h2];rfl⟩)
  ·exact .inr (.inr ⟨[],a,b,x,c,h,rfl,rfl⟩)
theorem p0 {u x' c':Sg}{a b:Nat}(ne:a≠b){r:Sg}(h:Lt (u++b::c') (u++a::x') r):False:=by
 obtain⟨_,h|h⟩:=h
 ·rw[Uv,List.cons_append] at h
  have:=U0 h
  exact ne (List.cons.inj this).1
 ·rw[Uv,List.cons_append] at h
  have:=U0 h
  exact ne (List.cons.inj this).1.symm
theorem Dl.worth {cs:List Sg}(wk:∀c∈cs,c≠[]){x:Sg}{v:Option Nat}(h:Dl cs x v):x≠[]->(∃g:Sg->Option Nat,(∀c∈cs,Wv cs (x,c) (g c))/\jg (fun a=>∃c∈cs,g c=some a) v)/\∃g:Sg->Option Nat,(∀c∈cs,Wv cs (c,x) (g c))/\jg (fun a=>∃c∈cs,g c=some a) v:=by
 induction h with
 | mk x f v h t ih=>
  intro hx
  have key:∀(sw:Bool),∀c∈cs,∃w:Option Nat,Wv cs (if sw then (c,x) else (x,c)) w/\∀a,w=some a↔((c=x/\a=x.length)∨∃r d,Lt c x r/\f r=some d/\a=min x.length c.length+d):=by
   intro sw c hc
   have Nt:=wk c hc
   rcases pE x c with rfl|⟨r,hl⟩|⟨u,a,b,x',c',ne,rfl,rfl⟩
   ·refine⟨some x.length,by cases sw<;>exact Wv.self hx,fun a=>⟨fun e =>.inl ⟨rfl,(Option.some.inj e).symm⟩,fun e =>?_⟩⟩
    rcases e with ⟨_,e⟩|⟨r,d,hl,_⟩
    ·rw[e]
    ·exfalso
     obtain⟨n,e|e⟩:=hl
     ·have:=congrArg J9 e;rw[Je] at this;have:=Uu.mpr n;omega
     ·have:=congrArg J9 e;rw[Je] at this;have:=Uu.mpr n;omega
   ·obtain⟨⟨g1,w1,t1⟩,⟨g2,w2,t2⟩⟩:=ih c hc r hl hl.1
    have hZ:c≠x:=fun e=>by
     subst e
     obtain⟨n,e|e⟩:=hl
     ·have:=congrArg J9 e;rw[Je] at this;have:=Uu.mpr n;omega
     ·have:=congrArg J9 e;rw[Je] at this;have:=Uu.mpr n;omega
    have spec:∀{n:Nat},n=min x.length c.length->∀a,(f r).map (· + n)=some a↔((c=x/\a=x.length)∨∃r d,Lt c x r/\f r=some d/\a=min x.length c.length+d):=fun{n} en a=>by
     refine⟨fun e =>?_,fun e =>?_⟩
     ·obtain⟨d,hd,e⟩:=Option.map_eq_some_iff.mp e
      exact .inr ⟨r,d,hl,hd,by omega⟩
     ·rcases e with ⟨e,_⟩|⟨r',d,iK,hd,e⟩
      ·exact absurd e hZ
      ·rw[hl.one iK,hd,e];show some (d+n)=_;congr 1;omega
    obtain⟨n,e|e⟩:=hl
    ·subst e
     refine⟨(f r).map (· + c.length),?_,spec (by simp)⟩
     cases sw
     ·exact Wv.over n w1 t1 Nt
     ·exact Wv.Bw n w2 t2 Nt
    ·subst e
     refine⟨(f r).map (· + x.length),?_,spec (by simp)⟩
     cases sw
     ·exact Wv.Bw n w2 t2 hx
     ·exact Wv.over n w1 t1 hx
   ·refine⟨none,by cases sw;exact Wv.miss ne u;exact Wv.miss (Ne.symm ne) u,fun a=>⟨(fun e=>nomatch e),fun e =>?_⟩⟩
    rcases e with ⟨e,_⟩|⟨r,d,hl,_⟩
    ·have:=U0 e
     exact absurd (List.cons.inj this).1 (Ne.symm ne)
    ·exact(p0 ne hl).elim
  have pick:∀sw:Bool,∃g:Sg->Option Nat,(∀c∈cs,Wv cs (if sw then (c,x) else (x,c)) (g c))/\jg (fun a=>∃c∈cs,g c=some a) v:=by
   intro sw
   refine⟨fun c=>open Classical in if hc:c∈cs then (key sw c hc).choose else none,fun c hc =>?_,t.congr fun a=>⟨fun e =>?_,fun e =>?_⟩⟩
   ·dsimp only;rw[dif_pos hc];exact(key sw c hc).choose_spec.1
   ·rcases e with ⟨hc,e⟩|⟨c,hc,r,d,h1,h2,h3⟩
    ·refine⟨x,hc,?_⟩
     dsimp only;rw[dif_pos hc];exact((key sw x hc).choose_spec.2 a).mpr (.inl ⟨rfl,e⟩)
    ·refine⟨c,hc,?_⟩
     dsimp only;rw[dif_pos hc];exact((key sw c hc).choose_spec.2 a).mpr (.inr ⟨r,d,h1,h2,h3⟩)
   ·obtain⟨c,hc,e⟩:=e
    dsimp only at e;rw[dif_pos hc] at e
    rcases((key sw c hc).choose_spec.2 a).mp e with ⟨rfl,e⟩|⟨r,d,h1,h2,h3⟩
    ·exact .inl ⟨hc,e⟩
    ·exact .inr ⟨c,hc,r,d,h1,h2,h3⟩
  exact⟨by simpa using pick false,by simpa using pick true⟩
theorem Wv.ends {cs:List Sg}{p:Sg×Sg}{v:Option Nat}(h:Wv cs p v):∀r,(Lt p.2 p.1 r->En cs r):=by
 induction h with
 | fin=>rintro r ⟨n,e|e⟩<;>exact absurd e.symm (by simpa using n)
 | step p f v h1 h2 h t ih=>
  obtain⟨x,y⟩:=p
  dsimp only at h1 h2
  intro r hl
  cases x with
  | nil=>exact absurd rfl h1
  | cons a x=>
   cases y with
   | nil=>exact absurd rfl h2
   | cons b y=>
    obtain⟨n,e⟩:=hl
    have DK:a=b:=by
     rcases e with e|e
     ·exact(List.cons.inj e).1
     ·exact(List.cons.inj e).1.symm
    subst DK
    have e:x=y++r∨y=x++r:=e.imp (fun e=>(List.cons.inj e).2) fun e=>(List.cons.inj e).2
    by_cases hx:x=[]
    ·subst hx
     have hy:y=r:=by
      rcases e with e|e
      ·exact absurd (List.append_eq_nil_iff.mp e.symm).2 n
      ·simpa using e
     subst hy
     refine .mk _ fun c hc r' iK=>ih (c,y) (by rw[CW n];exact J0.mpr ⟨c,hc,rfl⟩) r' ⟨iK.1,iK.2.symm⟩
    ·by_cases hy:y=[]
     ·subst hy
      have Hl:x=r:=by
       rcases e with e|e
       ·simpa using e
       ·exact absurd (List.append_eq_nil_iff.mp e.symm).2 n
      subst Hl
      exact .mk _ fun c hc r' iK=>ih (x,c) (by rw[Cr n];exact J0.mpr ⟨c,hc,rfl⟩) r' iK
     ·exact ih (x,y) (by rw[nH hx hy];exact Jd.mpr rfl) r ⟨n,e⟩
theorem En.xi {cs:List Sg}{x:Sg}(h:∀c∈cs,∃v,Wv cs (x,c) v):En cs x := .mk _ fun c hc r hl=>by
 obtain⟨v,hv⟩:=h c hc
 exact hv.ends r hl
inductive Rc (cs:List Sg):Sg×Sg->Prop
 | start (k:Nat) (d c:Sg) (h1:1<=k) (h2:k<d.length) (hd:d∈cs) (hc:c∈cs):Rc cs (d.drop k,c)
 | step (p q:Sg×Sg) (h:Rc cs p) (hq:q∈nx cs p):Rc cs q
theorem Rc.worth {cs:List Sg}(h:∀k d c,1<=k->k<d.length->d∈cs->c∈cs->∃v,Wv cs (d.drop k,c) v){p:Sg×Sg}(r:Rc cs p):∃v,Wv cs p v:=by
 induction r with
 | start k d c h1 h2 hd hc=>exact h k d c h1 h2 hd hc
 | step p q _ hq ih=>
  obtain⟨v,hv⟩:=ih
  exact hv.next hq
noncomputable abbrev nI (ns:List Nat):List V:=ns.map fun n=>V.int (n:Nat)
theorem eQ (x y:Str):Txt.startswith x y=true↔sg y <+: sg x:=by
 have hl:y.length=(sg y).length:=str_len y
 have hx:x.length=(sg x).length:=str_len x
 have e:(x.cps.extract 0 (0+y.length)==y.cps)=true↔(sg x).take y.length=sg y:=by
  rw[beq_iff_eq,<-Array.toList_inj]
  simp[Array.toList_extract]
 show(decide (0+y.length<=x.length)&&(x.cps.extract 0 (0+y.length)==y.cps))=true↔_
 rw[Yh,decide_eq_true_iff,e]
 constructor
 ·rintro⟨_,h⟩
  rw[<-h]
  exact List.take_prefix _ _
 ·intro h
  exact⟨by have:=h.length_le;omega,by rw[hl];exact(List.prefix_iff_eq_take.mp h).symm⟩
theorem tO {x y:Str}(c:sg x <+: sg y):sg y=sg x++sg (Txt.slice y (some ((x.length:Nat):Int)) none):=by
 rw[fG,show x.length=(sg x).length from str_len x]
 exact List.prefix_iff_eq_append.mp c |>.symm
theorem ox {r:Str}:sg r=[]↔r = "":=⟨fun h=>df (by rw[h];rfl),fun h=>by rw[h];rfl⟩
theorem gG {q:Str×Str}{x r:Str}:Bh q x r↔Lt (sg q.2) (sg x) (sg r):=by
 unfold Bh je Lt
 rw[show(sg r≠[])↔(r ≠ "") from not_congr ox]
 by_cases c1:Txt.startswith x q.2=true
 ·rw[if_pos c1]
  have e:=tO ((eQ _ _).mp c1)
  refine⟨fun⟨h,n⟩=>⟨n,.inl ?_⟩,fun⟨n,h⟩=>⟨?_,n⟩⟩
  ·injection h with h;rw[<-h];exact e
  ·congr 1
   refine df ?_
   rcases h with h|h
   ·rw[h] at e;exact(U0 e).symm
   ·exfalso
    have l1:=congrArg J9 h
    have l2:=congrArg J9 e
    rw[Je] at l1 l2
    have:sg r=[]:=J7 (by omega)
    exact n (ox.mp this)
 ·rw[if_neg c1]
  by_cases c2:Txt.startswith q.2 x=true
  ·rw[if_pos c2]
   have e:=tO ((eQ _ _).mp c2)
   refine⟨fun⟨h,n⟩=>⟨n,.inr ?_⟩,fun⟨n,h⟩=>⟨?_,n⟩⟩
   ·injection h with h;rw[<-h];exact e
   ·congr 1
    refine df ?_
    rcases h with h|h
    ·exact absurd ((eQ _ _).mpr ⟨_,h.symm⟩) c1
    ·rw[h] at e;exact(U0 e).symm
  ·rw[if_neg c2]
   refine⟨(fun h=>nomatch h.1),fun⟨_,h⟩=>?_⟩
   rcases h with h|h
   ·exact absurd ((eQ _ _).mpr ⟨_,h.symm⟩) c1
   ·exact absurd ((eQ _ _).mpr ⟨_,h.symm⟩) c2
noncomputable abbrev fg (B:List (Str×Str)):List Sg:=(B.map (·.2)).map sg
noncomputable def toS (s:Sg):Str:=⟨s.toArray⟩
theorem dF (s:Sg):sg (toS s)=s:=by show s.toArray.toList=s;exact Yo
theorem rL (x:Str):toS (sg x)=x:=df (dF _)
theorem ck {B:List (Str×Str)}{c:Sg}:c∈fg B ↔ ∃q∈B,sg q.2=c:=by
 unfold fg
 rw[Ye,J0];rfl
theorem cW.lt {B:List (Str×Str)}{q:Str×Str}{x r:Str}(hq:q∈B)(hx:cW B x)(h:Bh q x r):cW B r:=by
 obtain⟨n,h⟩:=gG.mp h
 have hn:0<(sg r).length:=Uu.mpr n
 rcases h with h|h
 ·obtain⟨q',hq',a,a1,a2,e⟩:=hx
  refine⟨q',hq',a+(sg q.2).length,by omega,?_,?_⟩
  ·have:=congrArg J9 (e.symm.trans h)
   rw[Uw,Je] at this
   omega
  ·have:(sg x).drop (sg q.2).length=sg r:=by rw[h,List.drop_left]
   rw[<-this,e,List.drop_drop]
 ·refine⟨q,hq,(sg x).length,?_,?_,?_⟩
  ·obtain⟨q',hq',a,a1,a2,e⟩:=hx
   rw[e,Uw];omega
  ·rw[h,Je];omega
  ·rw[h,List.drop_left]
theorem En.mem {B:List (Str×Str)}{E:List Str}(ek:∀r,cW B r->r∉E->∃q∈B,∃r',Bh q r r'/\r'∉E){s:Sg}(h:En (fg B) s):∀r,cW B r->sg r=s->r∈E:=by
 induction h with
 | mk s h ih=>
  intro r hr e
  refine Classical.byContradiction fun hn =>?_
  obtain⟨q,hq,r',hb,hn'⟩:=ek r hr hn
  exact hn' (ih (sg q.2) (ck.mpr ⟨q,hq,rfl⟩) (sg r') (by rw[<-e];exact gG.mp hb) r' (hr.lt hq hb) rfl)
def Ek (a b r:Str):Prop:=(b.length<a.length/\sg r=(sg a).drop b.length)∨(a.length<=b.length/\sg r=(sg b).drop a.length)
def xr:Sp:=fun vs H Q _=>bO fun(a b:Str)=>vs=[.str a,.str b]/\a.length<=1000/\b.length<=1000 /\
 ∀(v:V) (H':Hp),au H H'->(v = .non∨∃r,v = .str r/\Ek a b r)->Q v H'
def wg (a b r:Str):Prop:=sg a=sg b++sg r∨sg b=sg a++sg r
def oV:Sp:=fun vs H Q _=>bO fun(a b:Str)=>vs=[.str a,.str b]/\a.length<=1000/\b.length<=1000 /\
 ∀(v:V) (H':Hp),au H H'->((v = .non/\∀r,¬wg a b r)∨∃r,v = .str r/\wg a b r)->Q v H'
theorem wg.lf {a b r:Str}(h:wg a b r):Ek a b r:=by
 have ea:a.length=(sg a).length:=str_len a
 have eb:b.length=(sg b).length:=str_len b
 rcases h with h|h
 ·by_cases c:b.length<a.length
  ·exact .inl ⟨c,by rw[h,eb,List.drop_left]⟩
  ·have hl:=congrArg J9 h
   rw[Je] at hl
   have hr:sg r=[]:=J7 (by omega)
   exact .inr ⟨by omega,by rw[hr,List.drop_of_length_le (by omega)]⟩
 ·have hl:=congrArg J9 h
  rw[Je] at hl
  exact .inr ⟨by omega,by rw[h,ea,List.drop_left]⟩
theorem xP {vs:List V}{H:Hp}{Q:VK}{E:XK}(h:xr vs H Q E):oV vs H Q E:=by
 obtain⟨a,b,e,ha,hb,q⟩:=h
 exact⟨a,b,e,ha,hb,fun v H' s hv=>q v H' s (hv.imp (fun z=>z.1) fun⟨r,e,h⟩=>⟨r,e,h.lf⟩)⟩
section
variable {P:Program}{w:World}{K:Jc}{mg:Str->Option Value}{base:Heap}{f:Addr}{fd:FuncData}
theorem g9:aN ["_law_one", "_law_other", "_law_longer", "_law_shorter"] ["_law_one", "_law_other"] (aB (top iD)):=⟨rfl,rfl,rfl,by decide +kernel,rfl,by decide +kernel,by decide +kernel⟩
theorem CZ (F:cY K "_law_left" "_law_left" (top iD) f fd)(T:Nm mg):bI P w K mg base fY 1 f fd ["_law_one", "_law_other"] oV:=by
 refine F.ok g9 (fun vs H Q E h =>?_) (fun d9 A outer s H vs Q E hr h =>?_)
 ·obtain⟨a,b,rfl,_⟩:=h
  rfl
 unfold oV at h
 refine ae.el h _ ?_
 clear h
 rintro a b rfl ha hb q
 have eZ:=hr.units
 refine⟨_,(ah (oO (dP (aI xy (aq (dE K) rfl T.n_len (by rfl) (aa (pv 0) ag)) (aq (dE K) rfl T.n_len (by rfl) (aa (pv 1) ag)) (aH _)) (fA (aa (pv 0) (aa (pv 1) ag))) (fA (aa (pv 1) (aa (pv 0) ag)))) (tupK K 2 rfl (aJ (ak (i:=2) g9.nd rfl (Or.inl rfl)) (aJ (ak (i:=3) g9.nd rfl (Or.inl rfl)) cB))))
  (ao (aM (dP (aI (vU K eZ) (cI (Ai K) (pv 2) dr (dj (aq (dE K) rfl T.n_len (by rfl) (aa (pv 3) ag)))) (pv 3) (aH _)) (cI (Ai K) (pv 2) (dj (aq (dE K) rfl T.n_len (by rfl) (aa (pv 3) ag))) dr) d7)))),?_⟩
 have RJ:a.length=(sg a).length:=str_len a
 have RA:b.length=(sg b).length:=str_len b
 refine bW (te:=HL _ _ _) (fun v H'=>fq fun(z:Addr) (x y:Str)=>v = .ref z/\au H H'/\H' z=some (.tup [.str x,.str y])/\x.length<=1000/\y.length<=x.length/\∀r,wg a b r↔sg x=sg y++sg r) (fun Qn qn =>?_) ?_
 ·refine⟨_,rfl,_,_,rfl,⟨sizeOk (by omega),rfl⟩,_,rfl,_,_,rfl,⟨sizeOk (by omega),rfl⟩,_,_,rfl,rfl,_,rfl,eX (fun c =>?_) (fun c =>?_)⟩
  ·have c:=of_decide_eq_true c
   refine⟨_,rfl,_,rfl,by show 2<=sizeLine;decide,fun z H1 n1=>qn _ _ ⟨z,a,b,rfl,n1.same,n1.at,ha,by omega,fun r=>⟨fun h=>h.elim id fun h =>?_,.inl⟩⟩⟩
   have hl:=congrArg J9 h
   rw[Je] at hl
   omega
  ·have c:¬(b.length:Int)<a.length:=fun z=>c (decide_eq_true z)
   refine⟨_,rfl,_,rfl,by show 2<=sizeLine;decide,fun z H1 n1=>qn _ _ ⟨z,b,a,rfl,n1.same,n1.at,hb,by omega,fun r=>⟨fun h=>h.elim (fun h =>?_) id,.inr⟩⟩⟩
   have hl:=congrArg J9 h
   rw[Je] at hl
   have hr:sg r=[]:=J7 (by omega)
   rw[hr,Uo] at h ⊢
   exact h.symm
 intro v H1
 refine ae.go ?_
 rintro z x y rfl s1 hz hx hy hL
 refine⟨z,_,rfl,fw.of hz,rfl,_,_,rfl,_,_,rfl,rfl,?_⟩
 have es:=fG (x:=x) y.length
 have et:=BL (x:=x) (j:=(y.length:Nat)) (by omega) (by omega)
 have ly:y.length=(sg y).length:=str_len y
 refine⟨_,rfl,?_⟩
 dsimp only[fh]
 refine⟨_,rfl,_,_,rfl,⟨sizeOk (by omega),rfl⟩,_,rfl,.inr ⟨x,rfl,sizeOk (by omega),_,rfl,.inl ⟨rfl,_,rfl,eX (fun c =>?_) (fun c=>q _ _ s1 (.inl ⟨rfl,fun r h=>c ?_⟩))⟩⟩⟩
 ·have c:=of_decide_eq_true c
  injection c with c
  refine⟨_,rfl,_,rfl,_,_,rfl,⟨sizeOk (by omega),rfl⟩,_,rfl,?_⟩
  dsimp only[fh]
  refine .inr ⟨x,rfl,sizeOk (by omega),q _ _ s1 (.inr ⟨_,rfl,(hL _).mpr ?_⟩)⟩
  rw[es]
  have c':sg (Txt.slice x none (some ((y.length:Nat):Int)))=sg y:=congrArg sg c
  rw[et] at c'
  rw[<-c']
  have e:((y.length:Nat):Int).toNat=y.length:=by omega
  rw[e,ly]
  exact(Yi _ _).symm
 ·refine decide_eq_true ?_
  congr 1
  refine df ?_
  show sg (Txt.slice x none (some ((y.length:Nat):Int)))=sg y
  rw[et,(hL r).mp h]
  have e:((y.length:Nat):Int).toNat=(sg y).length:=by omega
  rw[e,List.take_left]
end
open PySem.W
noncomputable abbrev dX:Expr:=D5 (dG (top cU))
noncomputable abbrev lX:Str:=Str.ofString "_law_lags" ++ Str.ofString ".<locals>." ++ Str.ofString "<lambda>"
def nV (K:Jc)(T:Addr)(pos:Pos):Sp:=fun vs H Q _=>fq fun(l:Addr) (B:List (Str×Str)) (ps:Array Value)=>vs=[.ref l]/\aD K H l ((B.map (·.2)).map V.str)/\dB B/\H T=some (.tbl ps)/\Tab H pos lX ps /\
 ∀(ts:List Str) (p:Addr) (pH:Array Value) (H':Hp),(∀b o,b≠T->H b=some o->H' b=some o)->H p=none->H' p=some (.lst (ts.map V.str))->H' T=some (.tbl pH)->Tab H' pos lX pH->ts.Nodup->ts.length<=200->(∀r,r∈ts↔cW B r)->ts.Pairwise (fun a b =>¬ff b a)->Q (.ref p) H'
theorem Ek.P6 {B:List (Str×Str)}{x r:Str}{q:Str×Str}(hq:q∈B)(hx:cW B x)(h:Ek x q.2 r)(ne:r ≠ ""):cW B r:=by
 have hr:(sg r).length≠0:=fun z=>ne (df (by rw[J7 z];rfl))
 obtain⟨q',hq',a,a1,a2,e⟩:=hx
 have lx:x.length=(sg x).length:=str_len _
 have lq:q.2.length=(sg q.2).length:=str_len _
 rcases h with ⟨h1,h2⟩|⟨h1,h2⟩
 ·refine⟨q',hq',a+q.2.length,by omega,?_,by rw[h2,e,List.drop_drop]⟩
  rw[h2,e,List.drop_drop,Uw] at hr
  omega
 ·refine⟨q,hq,x.length,?_,?_,h2⟩
  ·rw[lx,e,Uw];omega
  ·rw[h2,Uw] at hr;omega
theorem uw {B:List (Str×Str)}(g:dB B){r:Str}(h:cW B r):jo r:=fun ch hc=>by
 obtain⟨q,hq,a,_,_,e⟩:=h
 have hc:ch∈sg r:=hc
 rw[e] at hc
 exact(g.cd q hq).bin ch (Wq hc)
theorem GR {us ts:List Str}(nu:us.Nodup)(nt:ts.Nodup)(pu:us.Pairwise (fun a b =>¬ff b a))(pt:ts.Pairwise (fun a b =>¬ff b a))(h:∀r,r∈us↔r∈ts):us=ts:=by
 induction us generalizing ts with
 | nil=>
  cases ts with
  | nil=>rfl
  | cons t ts=>exact absurd ((h t).mpr Js) (fun z=>nomatch z)
 | cons u us ih=>
  cases ts with
  | nil=>exact absurd ((h u).mp Js) (fun z=>nomatch z)
  | cons t ts=>
   rw[U2] at nu nt
   rw[List.pairwise_cons] at pu pt
   have e:u=t:=by
    refine Classical.byContradiction fun ne =>?_
    have h1:u∈ts:=((J5.mp ((h u).mp Js)).resolve_left ne)
    have h2:t∈us:=((J5.mp ((h t).mpr Js)).resolve_left (Ne.symm ne))
    rcases sY ne with z|z
    ·exact pt.1 u h1 z
    ·exact pu.1 t h2 z
   subst e
   rw[ih nu.2 nt.2 pu.2 pt.2 fun r =>?_]
   refine⟨fun hr =>?_,fun hr =>?_⟩
   ·exact(J5.mp ((h r).mp (Jq _ hr))).resolve_left fun z=>nu.1 (z▸hr)
   ·exact(J5.mp ((h r).mpr (Jq _ hr))).resolve_left fun z=>nt.1 (z▸hr)
theorem t9 {H H':Hp}{q:Str}{c:Addr}(h:oX H q c)(s:au H H'):oX H' q c:=by
 obtain⟨o,vs,t,h1,h2⟩:=h
 exact⟨o,vs,t,s _ _ h1,h2⟩
theorem fe {H H':Hp}{pos:Pos}{q:Str}{ps:Array Value}(h:Tab H pos q ps)(s:au H H'):Tab H' pos q ps:=h.imp id fun⟨c,e,k⟩=>⟨c,e,t9 k s⟩
theorem yW {H H':Hp}{q:Str}{args:Arguments}{body:Expr}{scope:Scope}{f:Addr}(h:tD H q args body scope f)(s:au H H'):tD H' q args body scope f:=by
 obtain⟨pm,c,ct,h1,h2⟩:=h
 exact⟨pm,c,ct,s _ _ h1,t9 h2 s⟩
section
variable {P:Program}{w:World}{K:Jc}{mg:Str->Option Value}{base:Heap}{f c0 T0:Addr}{fd:FuncData}
theorem dU:aN ["_law_codes", "_law_found", "_law_waiting", "_law_code", "_law_lag", "_law_lefts"] ["_law_codes"] (aB (top cU)):=⟨rfl,rfl,rfl,by decide +kernel,rfl,by decide +kernel,by decide +kernel⟩
theorem zr (F:cY K "_law_lags" "_law_lags" (top cU) f fd)(T:Nm mg)(de:mg "sorted" = none)(zi:fd.code = .ref c0)(Fx:CodeHd base c0 T0)(Hx:base.BuiltinsAt mg T0)(Fm:mainGlobals≠T0)(iA:Fn P w K mg base 1 "_law_left" ["_law_one", "_law_other"] xr):bI P w K mg base fY 5 f fd ["_law_codes"] (nV K T0 (fU dX)):=by
 refine F.P9 dU (fun vs H Q E h =>?_) (fun A outer s H vs Q E hr h =>?_)
 ·obtain⟨l,B,ps,rfl,_⟩:=h
  rfl
 unfold nV at h
 refine ae.el h _ ?_
 clear h
 rintro l B ps rfl hl gB hT tab q
 have hu:=gA hr
 have eZ:=hr.units
 refine⟨_,(ah (Cf (i:=1) (j:=2) rfl dU.nd rfl rfl (by decide) rfl rfl (aa qg (aa (eS ag) ag)) rfl)
  (ah (eY PassesOwn.never rfl (gr K (pv 0)) (ak (i:=3) dU.nd rfl (Or.inr rfl)) (ao (cX (sr K PySem.F.plainAttrs_list PySem.F.slot_list_extend PySem.F.type_list_extend jh (pv 2) (aa (bg rfl (aK (Nc:=["_law_place"]) (Fc:=["_law_code"]) (js:=[3])) (jv rfl T.n_range (aa aw (aa (aq (dE K) rfl T.n_len (by rfl) (aa (pv 3) ag)) ag))) (aA (i:=0) (n:=1) (by decide)) (fun _ _ _ _ _=>(ak (i:=0) (dN ["_law_place", "_law_code"]) rfl (Or.inl rfl))) (fun _ _ _ _ _=>aX) (fun _ _ _ _ _=>(cI (Ai K) (pv 1) (dj (pv 0)) dr))) ag)))))
  (ah (fJ PassesOwn.never (aI (oP K eZ) (pv 2) (eS ag) (aH _)) (ah (aL (i:=4) dU.nd rfl (Or.inr rfl) (Ca K PySem.F.plainAttrs_list PySem.F.slot_list_pop PySem.F.type_list_pop Ep (pv 2)))
  (ao (cb (jI (fI hu (pv 4) (pv 1))) (ah (fv hu (pv 1) (pv 4) ee rfl)
  (ah (bz (i:=5) dU.nd rfl (Or.inl rfl) rfl (aK (Nc:=["_law_code"]) (Fc:=["_law_lag"]) (js:=[4])) (gr K (pv 0)) (aA (i:=0) (n:=1) (by decide)) (fun _ _ _ _ _=>(ak (i:=0) (dN ["_law_code", "_law_lag"]) rfl (Or.inl rfl))) (fun _ _ _ _ _=>aX) (fun _ _ _ _ _=>(bb (iA.mono (by decide)) hr rfl (aa (pv 1) (aa (pv 0) ag)))))
  (ao (cX (sr K PySem.F.plainAttrs_list PySem.F.slot_list_extend PySem.F.type_list_extend jh (pv 2) (aa (bg rfl (aK (Nc:=["_law_left_here"]) (Fc:=[]) (js:=[])) (gr K (pv 5)) (aA (i:=0) (n:=1) (by decide)) (fun _ _ _ _ _=>(ak (i:=0) (dN ["_law_left_here"]) rfl (Or.inl rfl))) (fun _ _ _ _ _=>(dI (PW.pt (jj (aI ig (pv 0) d7 (aH _)) (hX (aI (oP K eZ) (pv 0) bf (aH _))))))) (fun _ _ _ _ _=>(pv 0))) ag)))))) ba))))
  (ao (aM (jt (xX rfl fun _=>A4 (k:=0) (q:=lX) (args:=AM dX) (body:=Al dX) (scope:=wy dX) (N:=["_law_lag"]) (ps:=["_law_lag"]) ⟨rfl,rfl,rfl,by decide +kernel,rfl,by decide +kernel,by decide +kernel⟩ rfl (hr.mono (by decide)) (fun _ _ _ _=>rfl) fun _ _ _ _ _ hr=>(fA (aa (aq (dE K) rfl T.n_len (by rfl) (aa (pv 0) ag)) (aa (pv 0) ag)))) rfl de (by rfl) (aa (pv 1) ag) (oG (CB zi Fx Hx Fm) rX))))))),?_⟩
 have small:∀{n:Nat},n<=1000->n<sizeLine:=fun h=>Ue h (by decide)
 have hle:=gB.le
 have Kc:((B.map (·.2)).map V.str).length=B.length:=by rw[Ja,Ja]
 have D4:∀{i:Nat} (hi:i<B.length),((B.map (·.2)).map V.str)[i]? = some (.str B[i].2):=fun hi=>by rw[Jl,Jl,Jg hi];rfl
 refine fun d H1 n1=>⟨by show 0<=sizeLine;decide,fun wp H2 n2=>⟨_,_,rfl,?_⟩⟩
 have s2:=n1.same.trans n2.same
 have hd2:=n2.same _ _ n1.at
 have kF:H d=none:=n1.nn
 have y9:H wp=none:=n1.back n2.nn
 have dw:d≠wp:=ai n1.at n2.nn
 dsimp only
 refine cz (t:=nO _ _ _) (fun σ H'=>bO fun(x3:Option V) (ws:List Str) =>σ=[some (.ref l),some (.ref d),some (.ref wp),x3,none,none]/\au H H'/\H' d=some (.dK [])/\H' wp=some (.lst (ws.map V.str))/\ws.length<=200/\∀r,r∈ws↔cW B r) (fun Nx nx =>?_) ?_
 ·refine⟨_,rfl,l,rfl,⟨_,s2.seq hl⟩,?_⟩
  refine fQ (N:=B.length) (fun i σ H'=>bO fun(x3:Option V) (ws:List Str) =>σ=[some (.ref l),some (.ref d),some (.ref wp),x3,none,none]/\au H H'/\H' d=some (.dK [])/\H' wp=some (.lst (ws.map V.str))/\ws.length<=12*i/\∀r,r∈ws↔cW (B.take i) r) ⟨none,[],rfl,s2,hd2,n2.at,Jf _,fun r=>⟨(fun h=>nomatch h),fun⟨q,hq,_⟩=>nomatch hq⟩⟩ ?_ ?_
  ·intro i σ H3 hi
   refine ae.go ?_
   rintro x3 ws rfl s3 Bg wa wl wm
   refine⟨⟨_,_,s3.seq hl,D4 hi⟩,?_⟩
   rintro y H4 ⟨rfl,hy⟩
   have e:=hy _ (s3.seq hl)
   rw[D4 hi] at e;cases e
   refine gn ?_
   have hc:=(gB.cd _ (Jn hi)).le
   have cD:=aG hi
   generalize B[i]=z at hc cD
   have A1:z.2.length=(sg z.2).length:=str_len _
   have sf:=fun j:Nat=>fG (x:=z.2) (1+j)
   refine⟨_,rfl,.inl ⟨rfl,_,aD.of wa⟩,_,rfl,_,_,rfl,⟨sizeOk (by omega),rfl⟩,1,(z.2.length:Nat),rfl,⟨by omega,by omega,by omega,by omega⟩,?_⟩
   refine aV (N:=z.2.length-1) (fun k ys H'=>H'=H4/\ys=((We k).map fun j=>Txt.slice z.2 (some ((1+j:Nat):Int)) none).map V.str) ⟨rfl,rfl⟩ ?_ ?_
   ·rintro k ys H5 Ny hk ⟨rfl,rfl⟩ ny
    refine⟨by show k<_;omega,small (by rw[Ja,Ja,Yp];omega),?_⟩
    rintro y H6 ⟨rfl,rfl⟩
    refine gn ?_
    dsimp only[fP]
    rw[if_pos rfl]
    refine⟨_,rfl,_,rfl,_,rfl,?_⟩
    dsimp only[fh]
    refine .inr ⟨z.2,rfl,sizeOk (by omega),ny _ _ ⟨rfl,?_⟩⟩
    rw[List.range_succ,Jh,Jh,show((1:Int)+(k:Int))=((1+k:Nat):Int) by omega];rfl
   ·rintro ys H5 ⟨rfl,rfl⟩
    refine⟨by show _<=_;omega,fun p hp =>?_⟩
    obtain⟨es,Ha⟩:∃es,es=(We (z.2.length-1)).map fun j=>Txt.slice z.2 (some ((1+j:Nat):Int)) none:=⟨_,rfl⟩
    rw[<-Ha]
    obtain⟨H6,n6⟩:∃H6,dM H5 p (.lst (es.map V.str)) H6:=⟨_,hp,rfl⟩
    rw[<-n6.eq]
    have el:es.length<=12:=by rw[Ha,Ja,Yp];omega
    have em:∀r,r∈es ↔ ∃a,1<=a/\a<(sg z.2).length/\sg r=(sg z.2).drop a:=fun r=>by
     rw[Ha,J0]
     refine⟨fun⟨j,hj,e⟩=>⟨1+j,by omega,by have:=Wr.mp hj;omega,by rw[<-e];exact sf j⟩,fun⟨a,a1,a2,e⟩=>⟨a-1,Wr.mpr (by omega),df ?_⟩⟩
     rw[e,sf,show 1+(a-1)=a by omega]
    have me:=n6.same _ _ wa
    refine⟨wp,p,_,_,rfl,rfl,me,n6.at,by rw[Ja,Ja];exact sizeOk (by omega),fun H7 c7=>⟨_,ws++es,rfl,fun b o e =>?_,?_,?_,by rw[Je];omega,fun r =>?_⟩⟩
    ·rw[c7.ne (ai e y9)];exact n6.same _ _ (s3 b o e)
    ·rw[c7.ne dw];exact n6.same _ _ Bg
    ·rw[c7.at,Jh]
    ·rw[Ji,wm,em,cD]
     refine⟨fun h =>?_,fun⟨q,hq,h⟩=>?_⟩
     ·rcases h with ⟨q,hq,h⟩|h
      ·exact⟨q,Jx _ hq,h⟩
      ·exact⟨z,Jj _ (Jd.mpr rfl),h⟩
     ·rcases Ji.mp hq with hq|hq
      ·exact .inl ⟨q,hq,h⟩
      ·rw[Jd.mp hq] at h;exact .inr h
  ·intro σ H3
   refine ae.go ?_
   rintro x3 ws rfl s3 Bg wa wl wm
   rw[J3] at wm
   exact⟨⟨_,s3.seq hl,by omega⟩,nx _ _ ⟨x3,ws,rfl,s3,Bg,wa,by omega,wm⟩⟩
 intro σ H3
 refine ae.go ?_
 rintro x3 ws rfl s3 Bg wa wl wm
 let J:Nat->L2.St->Hp->Prop:=fun m σ H'=>lU fun(x4 x5:Option V) (us ws:List Str) =>σ=[some (.ref l),some (.ref d),some (.ref wp),x3,x4,x5]/\au H H'/\H' d=some (.dK (us.map dW))/\H' wp=some (.lst (ws.map V.str))/\us.Nodup/\(∀r∈us,cW B r)/\(∀r∈ws,cW B r)/\(∀r,cW B r->r∈us∨r∈ws)/\ws.length<=200+20*us.length/\m=ws.length+20*(200-us.length)
 refine cz (t:=gL _ _) (fun σ H'=>fq fun(x4 x5:Option V) (us:List Str) =>σ=[some (.ref l),some (.ref d),some (.ref wp),x3,x4,x5]/\au H H'/\H' d=some (.dK (us.map dW))/\us.Nodup/\us.length<=200/\∀r,r∈us↔cW B r) (fun Nx nx =>?_) ?_
 ·refine ie J ⟨_,none,none,[],ws,rfl,s3,Bg,wa,Ws,(fun r h=>nomatch h),fun r h=>(wm r).mp h,fun r h =>.inr ((wm r).mpr h),by show ws.length<=200+20*0;omega,rfl⟩ ?_
  intro m σ H4
  refine ae.go ?_
  rintro x4 x5 us vs rfl s4 zc Gq nd e1 e2 e3 vl rfl
  have rh:∀x∈vs,jo x:=fun x hx=>uw gB (e2 x hx)
  refine⟨_,rfl,by show 0<=sizeLine;decide,fun p5 H5 n5 =>.inr ⟨_,_,Den.list (aD.of (n5.same _ _ Gq)) (Den.strs _),Den.list (aD.of n5.at) (by unfold aO;rfl),oI rh,iH,_,rfl,?_⟩⟩
  rw[jq]
  have s5:=s4.trans n5.same
  have rA:=n5.same _ _ zc
  have GS:=n5.same _ _ Gq
  have K9:us.length<=200:=Ju (bp nd fun x hx=>(wm x).mpr (e1 x hx)) wl
  by_cases hv:vs=[]
  ·have e:(!vs.isEmpty)=false:=by rw[hv];rfl
   rw[e]
   refine bA (nx _ _ ⟨x4,x5,us,rfl,s5,rA,nd,K9,fun r=>⟨e1 r,fun h=>(e3 r h).resolve_right ?_⟩⟩)
   rw[hv];exact fun z=>nomatch z
  obtain⟨ws',x,rfl⟩:∃ws' x,vs=ws'++[x]:=⟨_,_,(Yt hv).symm⟩
  have e:(!(ws'++[x]).isEmpty)=true:=by cases ws'<;>rfl
  rw[e]
  have hx:=e2 x (Jj _ (Jd.mpr rfl))
  have Bl:=hx.CT gB
  rw[Je] at vl
  have vl:ws'.length+1<=200+20*us.length:=vl
  refine cj ⟨fun σ' H'=>∃m',m'<(ws'++[x]).length+20*(200-us.length)/\J m' σ' H',fun _ _ h=>h,?_⟩
  rw[Jh] at GS
  refine⟨_,rfl,.inl ⟨rfl,_,aD.of GS⟩,wp,_,.str x,rfl,rfl,GS,?_,fun H6 c6=>gn ?_⟩
  ·rw[Je,Ud (by show _<=_+1-1;omega)]
   show[V.str x][(ws'.map V.str).length+1-1-(ws'.map V.str).length]? = _
   rw[show(ws'.map V.str).length+1-1-(ws'.map V.str).length=0 by omega];rfl
  have me:H6 wp=some (.lst (ws'.map V.str)):=by rw[c6.at];exact congrArg (fun l=>some (HO.lst l)) List.dropLast_concat
  have uG:H6 d=some (.dK (us.map dW)):=by rw[c6.ne dw];exact rA
  have s6:au H H6:=fun b o e=>by rw[c6.ne (ai e y9)];exact s5 b o e
  dsimp only
  by_cases fR:x∈us
  ·refine⟨_,rfl,_,rfl,d,_,rfl,.inl ⟨_,.inr x,.inl uG,rfl,rfl⟩,_,rfl,?_⟩
   rw[iz.mpr fR]
   refine bA ⟨ws'.length+20*(200-us.length),by rw[Je];show _<_+1+_;omega,_,_,us,ws',rfl,s6,uG,me,nd,e1,fun r h=>e2 r (Jx _ h),fun r h =>?_,by omega,rfl⟩
   rcases e3 r h with z|z
   ·exact .inl z
   ·rcases Ji.mp z with z|z
    ·exact .inr z
    ·rw[Jd.mp z];exact .inl fR
  have eN:(av (us.map dW) (.inr x)).isSome=false:=by
   cases hs:(av (us.map dW) (.inr x)).isSome with
   | false=>rfl
   | true=>exact absurd (iz.mp hs) fR
  have v8:(us++[x]).Nodup:=by have:=oo (r:=x) nd;rwa[if_neg fR] at this
  have NB:us.length+1<=200:=by
   have:=Ju (bp (m:=ws) v8 fun y hy=>(wm y).mpr ((Ji.mp hy).elim (e1 y) fun z=>Jd.mp z▸hx)) wl
   rwa[Je] at this
  refine⟨_,rfl,_,rfl,d,_,rfl,.inl ⟨_,.inr x,.inl uG,rfl,rfl⟩,_,rfl,?_⟩
  rw[eN]
  refine cj ⟨_,rfl,_,rfl,d,_,rfl,.inl ⟨_,.inr x,uG,rfl,small (by rw[Ja];omega),rfl⟩,?_⟩
  rw[j8,if_neg fR]
  obtain⟨H7,c7⟩:∃H7,jT H6 d (.dK ((us++[x]).map dW)) H7:=⟨_,⟨rfl⟩⟩
  rw[<-c7.eq]
  have tG:=c7.at
  have yX:H7 wp=some (.lst (ws'.map V.str)):=by rw[c7.ne (Ne.symm dw)];exact me
  have s7:au H H7:=fun b o e=>by rw[c7.ne (ai e kF)];exact s6 b o e
  dsimp only
  refine bW (te:=eO _ _ _ _ _ _) (fun v H'=>bO fun(p:Addr) (ys:List V)=>v = .ref p/\au H7 H'/\H' p=some (.lst ys)/\ys.length=B.length/\∀v∈ys,v = .non∨bO fun(r:Str) (z:Str×Str)=>v = .str r/\z∈B/\Ek x z.2 r) (fun Qn qn =>?_) ?_
  ·refine⟨_,rfl,l,rfl,⟨_,s7.seq hl⟩,?_⟩
   refine aV (N:=B.length) (fun k ys H'=>au H7 H'/\ys.length=k/\∀v∈ys,v = .non∨bO fun(r:Str) (z:Str×Str)=>v = .str r/\z∈B/\Ek x z.2 r) ⟨au.refl _,rfl,fun _ h=>nomatch h⟩ ?_ ?_
   ·rintro k ys H8 Ny hk ⟨s8,yl,ym⟩ ny
    have Im:=s7.trans s8
    refine⟨⟨_,_,Im.seq hl,D4 hk⟩,small (by omega),?_⟩
    rintro y H9 ⟨rfl,hy⟩
    have e:=hy _ (Im.seq hl)
    rw[D4 hk] at e;cases e
    have hc:=(gB.cd _ (Jn hk)).le
    have hm:=Jn hk
    generalize B[k]=z at hc hm
    refine gn ?_
    dsimp only[fP]
    rw[if_pos rfl]
    refine⟨_,rfl,_,rfl,x,z.2,rfl,by omega,by omega,fun v H10 s10 hv=>ny _ _ ⟨s8.trans s10,by rw[Je,yl];rfl,fun u hu =>?_⟩⟩
    rcases Ji.mp hu with hu|hu
    ·exact ym u hu
    ·rw[Jd.mp hu]
     rcases hv with hv|⟨r,hv,hr⟩
     ·exact .inl hv
     ·exact .inr ⟨r,z,hv,hm,hr⟩
   ·rintro ys H8 ⟨s8,yl,ym⟩
    refine⟨⟨_,(s7.trans s8).seq hl,by omega⟩,fun p hp=>qn _ _ ⟨p,ys,rfl,s8.trans (aQ hp _),ar,yl,ym⟩⟩
  intro v H8
  refine ae.go ?_
  rintro p8 ys rfl s8 y6 yl ym
  refine gn ?_
  have Im:=s7.trans s8
  have vX:=s8 _ _ yX
  have IH:=s8 _ _ tG
  refine⟨_,rfl,.inl ⟨rfl,_,aD.of vX⟩,?_⟩
  refine⟨_,rfl,p8,rfl,⟨_,aD.of y6⟩,?_⟩
  refine aV (N:=ys.length) (fun k out H'=>H'=H8/\∃zs:List Str,out=zs.map V.str/\zs.length<=k/\∀r∈zs,cW B r) ⟨rfl,[],rfl,Jf _,fun _ h=>nomatch h⟩ ?_ ?_
  ·intro k out H9 Ny hk hz_ ny
   refine ae.el hz_ _ ?_
   clear hz_
   rintro rfl zs rfl zl zm
   have Bk:ys[k]? = some ys[k]:=Jg hk
   have hm:=ym _ (Jn hk)
   generalize ys[k]=v at Bk hm
   refine⟨⟨_,_,aD.of y6,Bk⟩,small (by rw[Ja];omega),?_⟩
   rintro y H10 ⟨rfl,hy⟩
   have e:=hy _ (aD.of y6)
   rw[Bk] at e;cases e
   refine gn ?_
   rcases hm with rfl|⟨r,z,rfl,xk,hr⟩
   ·exact⟨_,rfl,.inl ⟨rfl,_,rfl,bA (bA (ny _ _ ⟨rfl,zs,rfl,by omega,zm⟩))⟩⟩
   ·refine⟨_,rfl,.inl ⟨rfl,_,rfl,cj ⟨_,rfl,.inl ⟨rfl,_,rfl,eX (fun c=>⟨_,rfl,ny _ _ ⟨rfl,zs++[r],by rw[Jh];rfl,by rw[Je];exact Wc zl,fun r' jP =>?_⟩⟩) (fun c=>ny _ _ ⟨rfl,zs,rfl,by omega,zm⟩)⟩⟩⟩⟩
    rcases Ji.mp jP with h|h
    ·exact zm r' h
    ·rw[Jd.mp h]
     refine hr.P6 xk hx fun z =>?_
     rw[z] at c;exact absurd c (by decide)
  ·intro out H9
   refine ae.go ?_
   rintro rfl zs rfl zl zm
   refine⟨⟨_,aD.of y6,by omega⟩,fun p hp =>?_⟩
   obtain⟨H10,n10⟩:∃H10,dM H9 p (.lst (zs.map V.str)) H10:=⟨_,hp,rfl⟩
   rw[<-n10.eq]
   have Cp:=n10.same _ _ vX
   refine⟨wp,p,_,_,rfl,rfl,Cp,n10.at,by rw[Ja,Ja];exact sizeOk (by omega),fun qb c11=>⟨(ws'++zs).length+20*(200-(us++[x]).length),?_,_,_,us++[x],ws'++zs,rfl,fun b o e =>?_,?_,?_,v8,fun r hr =>?_,fun r hr =>?_,fun r hr =>?_,?_,rfl⟩⟩
   ·rw[Je,Je,Je];show _+_+20*(200-(us.length+1))<_+1+_;omega
   ·rw[c11.ne (ai e y9)];exact n10.same _ _ (Im b o e)
   ·rw[c11.ne dw];exact n10.same _ _ IH
   ·rw[c11.at,Jh]
   ·exact(Ji.mp hr).elim (e1 r) fun z=>Jd.mp z▸hx
   ·exact(Ji.mp hr).elim (fun h=>e2 r (Jx _ h)) (zm r)
   ·rcases e3 r hr with z|z
    ·exact .inl (Jx _ z)
    ·rcases Ji.mp z with z|z
     ·exact .inr (Jx _ z)
     ·exact .inl (Jj _ z)
   ·rw[Je,Je];show _+_<=200+20*(us.length+1);omega
 intro σ H4
 refine ae.go ?_
 rintro x4 x5 us rfl s4 zc nd ul um
 have dT:d≠T0:=fun z=>by rw[z,hT] at kF;cases kF
 refine⟨_,rfl,ps,s4 _ _ hT,fe tab s4,fun fl pH H5 nfl hT5 tab5 lam5 k5=>⟨d,fl,us.map dW,us,rfl,rfl,k5 d _ dT zc,?_,fun t ht Hj sj=>⟨yW lam5 sj,?_⟩,fun vs p H6 pm pw s6 hp wA=>q vs p pH H6 (fun b o hb e=>s6 _ _ (k5 b o hb (s4 b o e))) ?_ wA (s6 _ _ hT5) (fe tab5 s6) (pm.nodup_iff.mpr nd) (by rw[pm.length_eq];exact ul) (fun r=>pm.mem_iff.trans (um r)) pw⟩⟩
 ·rw[Ye];rfl
 ·have:=((um t).mp ht).CT gB
  exact⟨_,rfl,_,_,rfl,⟨sizeOk (by omega),rfl⟩,_,rfl,by show 2<=sizeLine;decide,fun z H' n=>⟨z,rfl,n⟩⟩
 ·cases e:H p with
  | none=>rfl
  | some o=>
   by_cases hb:p=T0
   ·rw[hb,hT5] at hp;cases hp
   ·rw[k5 p o hb (s4 _ _ e)] at hp;cases hp
end
def lF (K:Jc)(T0:Addr):Sp:=fun vs H Q _=>bO fun(a:Addr) (ns:List Int)=>vs=[.ref a]/\aD K H a (ns.map V.int)/\ns.length<=63/\H T0=some (.tbl #[])/\∀H',Q (.bl true) H'
def Kp (T:Addr)(H H':Hp):Prop:=∀b o,b≠T->H b=some o->H' b=some o
section
variable {K:Jc}{T:Addr}{H H':Hp}{ps:Array Value}
theorem Kp.at (k:Kp T H H')(hT:H T=some (.tbl ps)){a:Addr}{o:HO}(h:H a=some o)(ne:o ≠ .tbl ps):H' a=some o:=k _ _ (fun z=>by rw[z,hT] at h;exact ne (Option.some.inj h).symm) h
theorem Kp.seq (k:Kp T H H')(hT:H T=some (.tbl ps)){a:Addr}{vs:List V}(h:aD K H a vs):aD K H' a vs:=by
 rcases h with (h|⟨o,h⟩)|h
 ·exact .inl (.inl (k.at hT h (fun z=>nomatch z)))
 ·exact .inl (.inr ⟨o,k.at hT h (fun z=>nomatch z)⟩)
 ·exact .inr h
theorem Kp.i7 (k:Kp T H H')(hT:H T=some (.tbl ps)){a:Addr}{vs:List V}(h:fw K H a vs):fw K H' a vs:=by
 rcases h with (h|⟨o,h⟩)|h
 ·exact .inl (.inl (k.at hT h (fun z=>nomatch z)))
 ·exact .inl (.inr ⟨o,k.at hT h (fun z=>nomatch z)⟩)
 ·exact .inr h
mutual
theorem Den.kp (k:Kp T H H')(hT:H T=some (.tbl ps)):∀{d:PyData} {v:V},Den K H d v->Den K H' d v
 | .none,_,h=>by unfold Den at h ⊢;exact h
 | .bool _,_,h=>by unfold Den at h ⊢;exact h
 | .int _,_,h=>by unfold Den at h ⊢;exact h
 | .str _,_,h=>by unfold Den at h ⊢;exact h
 | .list ds,_,h=>by
  unfold Den at h ⊢
  obtain⟨a,vs,h1,h2,h3⟩:=h
  exact⟨a,vs,h1,k.seq hT h2,aO.kp k hT h3⟩
 | .tuple ds,_,h=>by
  unfold Den at h ⊢
  obtain⟨a,vs,h1,h2,h3⟩:=h
  exact⟨a,vs,h1,k.i7 hT h2,aO.kp k hT h3⟩
 | .dict _,_,h=>by unfold Den at h;exact h.elim
theorem aO.kp (k:Kp T H H')(hT:H T=some (.tbl ps)):∀{ds:List PyData} {vs:List V},aO K H ds vs->aO K H' ds vs
 | [],_,h=>by unfold aO at h ⊢;exact h
 | d::ds,_,h=>by
  unfold aO at h ⊢
  obtain⟨v,r,h1,h2,h3⟩:=h
  exact⟨v,r,h1,Den.kp k hT h2,aO.kp k hT h3⟩
end
theorem Kp.bx (k:Kp T H H')(hT:H T=some (.tbl ps)){b c:Addr}{t:Int}(x:Bx H b c t):Bx H' b c t:=by
 obtain⟨ns,ex,x⟩:=x
 exact⟨ns,ex,k.at hT x.d (fun z=>nomatch z),x.xl,k.at hT x.l (fun z=>nomatch z),x.ne,x.le⟩
theorem yC {b c:Addr}{t t' N:Int}(x:Bx H b c t)(s:Step b c H H' t t' N)(hT:H T=some (.tbl ps)):H' T=some (.tbl ps):=by
 obtain⟨ns,ex,x⟩:=x
 exact s.old hT (fun z=>by rw[z,x.d] at hT;cases hT) (fun z=>by rw[z,x.l] at hT;cases hT)
theorem wD {b c:Addr}{t t' N:Int}{pos:Pos}{q:Str}(x:Bx H b c t)(s:Step b c H H' t t' N)(h:Tab H pos q ps):Tab H' pos q ps:=by
 obtain⟨ns,ex,x⟩:=x
 refine h.imp id fun⟨a,e,o,vs,tk,h1,h2⟩=>⟨a,e,o,vs,tk,s.old h1 (fun z=>by rw[z,x.d] at h1;cases h1) (fun z=>by rw[z,x.l] at h1;cases h1),h2⟩
end
def uu:Sp:=fun vs H Q _=>fq fun(b c:Addr) (t:Int)=>vs=[.ref b]/\Bx H b c t/\0<=t/\t<900000 /\
 ∀(m o:Int) (tp:Addr) (H':Hp) (t':Int),1<=m->m<=12->1<=o->o<=12->Step b c H H' t t' 3->H' tp=some (.tup [.int m,.int o])->Q (.ref tp) H'
def tS (K:Jc):Sp:=fun vs H Q _=>fq fun(b c:Addr) (t:Int)=>vs=[.ref b]/\Bx H b c t/\0<=t/\t<800000 /\
 ∀(bk:List (Str×Str)) (v:V) (H':Hp) (t':Int),dB bk->xT K (lR H' b c) bk v->Step b c H H' t t' 400->Q v H'
theorem pG (a:Array Nat):∀(k:Nat) (acc:Array Nat),((Jp k a).foldl (· ++ ·) acc).toList=acc.toList++(Jp k a.toList).flatten
 | 0,acc=>by simp
 | k+1,acc=>by
  rw[U7,List.foldl_cons,pG a k,U7]
  simp
theorem FP {x:Str}(hx:1<=x.length):sg (Txt.mul x 8)=(Jp 8 (sg x)).flatten:=by
 unfold Txt.mul
 rw[if_neg (by decide),if_neg (by intro h;rcases Bool.or_eq_true_iff.mp h with h|h;exact absurd h (by decide);have:=eq_of_beq h;omega)]
 show((Jp 8 x.cps).foldl (· ++ ·) #[]).toList=_
 rw[pG];simp
theorem qU {x:Str}(hx:1<=x.length):(Txt.mul x 8).length=8*x.length:=by
 rw[str_len,str_len]
 show(sg (Txt.mul x 8)).length=8*(sg x).length
 rw[FP hx,List.length_flatten,List.map_replicate,List.sum_replicate_nat]
theorem LI {x:Str}(hx:bu 12 x){o:Int}(o0:1<=o)(o1:o<=12):bu 12 (Txt.slice (Txt.mul x 8) none (some o)):=by
 have hl:=qU hx.pos
 have hp:=hx.pos
 obtain⟨o',o0',ol,oe,e⟩:∃o':Int,1<=o'/\o'<=12/\o'<=(Txt.mul x 8).length/\Txt.slice (Txt.mul x 8) none (some o)=Txt.slice (Txt.mul x 8) none (some o'):=by
  by_cases h:o<=(Txt.mul x 8).length
  ·exact⟨o,o0,o1,h,rfl⟩
  ·refine⟨((Txt.mul x 8).length:Nat),by omega,by omega,Yn _,?_⟩
   unfold Txt.slice
   have:PySem.Builtin.Str.strSliceIndices none (some o) 1 (Txt.mul x 8).length=PySem.Builtin.Str.strSliceIndices none (some (((Txt.mul x 8).length:Nat):Int)) 1 (Txt.mul x 8).length:=by
    unfold PySem.Builtin.Str.strSliceIndices
    dsimp only
    congr 1
    all_goals omega
   rw[this]
 rw[e]
 have hs:=BL (x:=Txt.mul x 8) (j:=o') (by omega) oe
 have hn:(Txt.slice (Txt.mul x 8) none (some o')).length=o'.toNat:=by
  rw[str_len]
  show(sg _).length=_
  rw[hs,J6]
  have:(sg (Txt.mul x 8)).length=(Txt.mul x 8).length:=(str_len _).symm
  omega
 refine⟨fun ch hc =>?_,by omega,by omega⟩
 have hc:ch∈sg (Txt.slice (Txt.mul x 8) none (some o')):=hc
 rw[hs,FP hx.pos] at hc
 have hc:=List.mem_of_mem_take hc
 obtain⟨l,iK,hm⟩:=List.mem_flatten.mp hc
 rw[(List.mem_replicate.mp iK).2] at hm
 exact hx.bin ch hm
theorem m6 {α:Type}[DecidableEq α]{f:Nat -> α}{k: α}:∀{i:Nat},k∈bS f i->∃j,j<i/\f j=k
 | 0,h=>by simp[bS] at h
 | i+1,h=>by
  unfold bS oneMore at h
  by_cases q:f i∈bS f i
  ·rw[if_pos q] at h
   obtain⟨j,hj,e⟩:=m6 h
   exact⟨j,by omega,e⟩
  ·rw[if_neg q] at h
   rcases Ji.mp h with h|h
   ·obtain⟨j,hj,e⟩:=m6 h
    exact⟨j,by omega,e⟩
   ·exact⟨i,by omega,(Jd.mp h).symm⟩
theorem rj {α:Type}[DecidableEq α]{f:Nat -> α}:∀{i:Nat},(bS f i).Nodup
 | 0=>Ws
 | i+1=>by
  unfold bS oneMore
  split
  ·exact rj
  ·rename_i q
   refine List.nodup_append.mpr ⟨rj,U2.mpr ⟨by simp,Ws⟩,fun a ha b hb e=>q ?_⟩
   rw[<-Jd.mp hb,<-e];exact ha
theorem yT {zs:List Str}{x:Str}(h:x∈qy zs):x∈zs:=by
 obtain⟨j,hj,e⟩:=m6 h
 rw[<-e,Yx,Jg hj]
 exact Jn hj
theorem ones_mul (k:Nat):sg (Txt.mul (Str.ofString "1") (k:Int))=Jp k 49:=AJ 49 k
theorem su (k:Nat):(Txt.mul (Str.ofString "1") (k:Int)).length=k:=by
 rw[str_len]
 show(sg _).length=k
 rw[ones_mul,Uk]
theorem xV (k:Nat):jo (Txt.mul (Str.ofString "1") (k:Int)):=fun ch hc=>by
 have hc:ch∈sg (Txt.mul (Str.ofString "1") (k:Int)):=hc
 rw[ones_mul] at hc
 exact .inr (List.mem_replicate.mp hc).2
theorem zC {k:Nat}(hk:k<12):bu 12 (Txt.mul (Str.ofString "1") (k:Int)++Str.ofString "0"):=by
 have e:sg (Txt.mul (Str.ofString "1") (k:Int)++Str.ofString "0")=Jp k 49++[48]:=by rw[kP,ones_mul];rfl
 have l:(Txt.mul (Str.ofString "1") (k:Int)++Str.ofString "0").length=k+1:=by
  rw[str_len]
  show(sg _).length=_
  rw[e,Je,Uk];rfl
 refine⟨fun ch hc =>?_,by omega,by omega⟩
 have hc:ch∈sg (Txt.mul (Str.ofString "1") (k:Int)++Str.ofString "0"):=hc
 rw[e] at hc
 rcases Ji.mp hc with h|h
 ·exact .inr (List.mem_replicate.mp h).2
 ·exact .inl (Jd.mp h)
theorem xw {H:Hp}{b c:Addr}{t:Int}(bx:Bx H b c t):∃g:Bool,(∃kvs,H b=some (.dK kvs)/\(av kvs (.inr "great")).isSome=g)/\(g=false->gq H b (.str "great") (.int 1) (upd H b (.dK [(.inr "cells",.ref c),(.inr "turn",.int t),(.inr "great",.int 1)]))/\Step b c H (upd H b (.dK [(.inr "cells",.ref c),(.inr "turn",.int t),(.inr "great",.int 1)])) t t 0):=by
 obtain⟨ns,ex,bx⟩:=bx
 rcases bx.xl with rfl|rfl
 ·refine⟨false,⟨_,bx.d,rfl⟩,fun _=>⟨gq.k (k:=Sum.inr "great") bx.d (by show 2<sizeLine;decide),Yn _,by omega,⟨ns,_,ar,.inr rfl,by rw[aj (Ne.symm bx.bc)];exact bx.l,bx.ne,bx.le⟩,by rw[mB];exact au.refl _⟩⟩
 ·exact⟨true,⟨_,bx.d,rfl⟩,(fun z=>nomatch z)⟩
section
variable {P:Program}{w:World}{K:Jc}{mg:Str->Option Value}{base:Heap}{f:Addr}{fd:FuncData}
theorem jc:aN ["_law_state", "_law_way"] ["_law_state"] (aB (top gO)):=⟨rfl,rfl,rfl,by decide +kernel,rfl,by decide +kernel,by decide +kernel⟩
theorem C7 (F:cY K "_law_sizes" "_law_sizes" (top gO) f fd)(T:Nm mg)(aW:Fn P w K mg base 1 "_law_take" ["_law_state", "_law_many"] uB):bI P w K mg base fY 2 f fd ["_law_state"] uu:=by
 refine F.ok jc (fun vs H Q E h =>?_) (fun d9 A outer s H vs Q E hr h =>?_)
 ·obtain⟨b,c,t,rfl,_⟩:=h
  rfl
 unfold uu at h
 refine ae.el h _ ?_
 clear h
 rintro b c t rfl bx t0 t1 q
 have hu:=gA hr
 have eZ:=hr.units
 refine⟨_,(ah (aL (i:=1) jc.nd rfl (Or.inl rfl) (bb (aW.mono (by decide)) hr rfl (aa (pv 0) (aa aw ag))))
  (ah (cb (PW.pt (jj (aI (vU K eZ) (pv 1) aw (aH _)) (hX (jI (fI hu bf (pv 0)))))) (ah (fv hu (pv 0) bf aw rfl)
  (ao (aM (fA (aa (bj fz aw (bb (aW.mono (by decide)) hr rfl (aa (pv 0) (aa aw ag)))) (aa (bj fz aw (bb (aW.mono (by decide)) hr rfl (aa (pv 0) (aa aw ag)))) ag)))))) ba)
  (ah (cb (aI (Pq K) (pv 1) (fA (aa aw (aa aw ag))) (by with_unfolding_all rfl)) (ao (aM (fA (aa (bj fz aw (bb (aW.mono (by decide)) hr rfl (aa (pv 0) (aa aw ag)))) (aa (bj fz aw (bb (aW.mono (by decide)) hr rfl (aa (pv 0) (aa aw ag)))) ag))))) ba)
  (ao (aM (fA (aa (bj fz aw (bb (aW.mono (by decide)) hr rfl (aa (pv 0) (aa aw ag)))) (aa (bj fz aw (bb (aW.mono (by decide)) hr rfl (aa (pv 0) (aa aw ag)))) ag)))))))),?_⟩
 refine⟨_,rfl,b,c,t,16,rfl,bx,by omega,by omega,by decide,by decide,fun way H1 w0 w1 gw=>gn ?_⟩
 dsimp only
 refine cz (t:=uJ _ _ _) (fun σ H' =>σ=[some (.ref b),some (.int way)]/\H'=H1) (fun Nx nx =>?_) ?_
 ·refine⟨_,rfl,.inl ⟨rfl,_,rfl,eX (fun _ =>?_) (fun _=>bA (nx _ _ ⟨rfl,rfl⟩))⟩⟩
  obtain⟨g,⟨kvs,hk,hg⟩,put⟩:=xw gw.bx
  refine⟨_,rfl,b,_,rfl,cK.k (k:=Sum.inr "great") hk,_,rfl,?_⟩
  rw[hg]
  cases g with
  | true=>exact bA (nx _ _ ⟨rfl,rfl⟩)
  | false=>
   refine ae.el (put rfl) _ ?_
   rintro hput bQ
   have bQ:=gw.trans bQ
   refine cj ⟨_,rfl,b,_,rfl,hput,?_⟩
   generalize upd H1 b _=H2 at bQ
   refine⟨_,rfl,b,c,_,_,rfl,bQ.bx,by omega,by omega,by decide,by decide,fun m HA m0 m1 stA =>.inl ⟨_,_,rfl,rfl,?_⟩⟩
   refine⟨_,rfl,b,c,_,_,rfl,stA.bx,by omega,by omega,by decide,by decide,fun o HB o0 o1 stB =>.inl ⟨_,_,rfl,rfl,by show 2<=sizeLine;decide,fun tp HC nC =>?_⟩⟩
   exact q _ _ tp HC _ (by omega) (by omega) (by omega) (by omega) (((bQ.trans stA).trans stB).e9 nC) nC.at
 rintro σ H2 ⟨rfl,rfl⟩
 refine⟨_,rfl,by show 2<=sizeLine;decide,fun p H3 n3=>⟨p,_,rfl,.inr (fw.of n3.at),rfl,rfl,_,rfl,eX (fun _ =>?_) (fun _ =>?_)⟩⟩
 ·have cS:=gw.e9 n3
  refine⟨_,rfl,b,c,_,_,rfl,cS.bx,by omega,by omega,by decide,by decide,fun m HA m0 m1 stA =>.inl ⟨_,_,rfl,rfl,?_⟩⟩
  refine⟨_,rfl,b,c,_,_,rfl,stA.bx,by omega,by omega,by decide,by decide,fun o HB o0 o1 stB =>.inl ⟨_,_,rfl,rfl,by show 2<=sizeLine;decide,fun tp HC nC =>?_⟩⟩
  exact q _ _ tp HC _ (by omega) (by omega) (by omega) (by omega) (((cS.trans stA).trans stB).e9 nC) nC.at
 ·have cS:=gw.e9 n3
  refine⟨_,rfl,b,c,_,_,rfl,cS.bx,by omega,by omega,by decide,by decide,fun m HA m0 m1 stA =>.inl ⟨_,_,rfl,rfl,?_⟩⟩
  refine⟨_,rfl,b,c,_,_,rfl,stA.bx,by omega,by omega,by decide,by decide,fun o HB o0 o1 stB =>.inl ⟨_,_,rfl,rfl,by show 2<=sizeLine;decide,fun tp HC nC =>?_⟩⟩
  exact q _ _ tp HC _ (by omega) (by omega) (by omega) (by omega) (((cS.trans stA).trans stB).e9 nC) nC.at
theorem cG:aN ["_law_state", "_law_way", "_law_many", "_law_most", "_law_codes"] ["_law_state"] (aB (top iB)):=⟨rfl,rfl,rfl,by decide +kernel,rfl,by decide +kernel,by decide +kernel⟩
theorem Ay (F:cY K "_law_book" "_law_book" (top iB) f fd)(T:Nm mg)(de:mg "sorted" = none)(xc:mg "set" = none)(aW:Fn P w K mg base 1 "_law_take" ["_law_state", "_law_many"] uB)(pN:Fn P w K mg base 2 "_law_sizes" ["_law_state"] uu)(rF:Fn P w K mg base 2 "_law_free" ["_law_state", "_law_many", "_law_most"] Aq)(pq:Fn P w K mg base 2 "_law_names" ["_law_state", "_law_many"] zg):bI P w K mg base fY 3 f fd ["_law_state"] (tS K):=by
 refine F.ok cG (fun vs H Q E h =>?_) (fun d9 A outer s H vs Q E hr h =>?_)
 ·obtain⟨b,c,t,rfl,_⟩:=h
  rfl
 unfold tS at h
 refine ae.el h _ ?_
 clear h
 rintro b c t rfl bx t0 t1 q
 have eZ:=hr.units
 have small:∀{n:Nat},n<=1000->n<sizeLine:=fun h=>Ue h (by decide)
 refine⟨_,(ah (aL (i:=1) cG.nd rfl (Or.inl rfl) (bb (aW.mono (by decide)) hr rfl (aa (pv 0) (aa aw ag))))
  (ah (oO (bb (pN.mono (by decide)) hr rfl (aa (pv 0) ag)) (tupK K 2 rfl (aJ (ak (i:=2) cG.nd rfl (Or.inl rfl)) (aJ (ak (i:=3) cG.nd rfl (Or.inr rfl)) cB))))
  (ah (aL (i:=4) cG.nd rfl (Or.inl rfl) (bb (rF.mono (by decide)) hr rfl (aa (pv 0) (aa (pv 2) (aa (pv 3) ag)))))
  (ah (cb (aI (vU K eZ) (pv 1) aw (aH _)) (ao (aL (i:=4) cG.nd rfl (Or.inl rfl) (aq (rg rfl) rfl de (by rfl) (aa (eI (uP rfl) rfl xc (by rfl) (aa (bg rfl (aK (Nc:=["_law_code"]) (Fc:=["_law_most"]) (js:=[3])) (gr K (pv 4)) (aA (i:=0) (n:=1) (by decide)) (fun _ _ _ _ _=>(ak (i:=0) (dN ["_law_code", "_law_most"]) rfl (Or.inl rfl))) (fun _ _ _ _ _=>aX) (fun _ _ _ _ _=>(cI (Ai K) (bj DA (pv 0) aw) dr (dj (pv 1))))) ag)) ag)))) ba)
  (ah (cb (aI (vU K eZ) (pv 1) aw (aH _)) (ao (aL (i:=4) cG.nd rfl (Or.inl rfl) (bj fz (bg rfl (aK (Nc:=["_law_k"]) (Fc:=[]) (js:=[])) (eJ rfl T.n_range (aa (pv 2) ag)) (aA (i:=0) (n:=1) (by decide)) (fun _ _ _ _ _=>(ak (i:=0) (dN ["_law_k"]) rfl (Or.inl rfl))) (fun _ _ _ _ _=>aX) (fun _ _ _ _ _=>(bj fz (bj DA bf (pv 0)) bf))) (bj nD (eS (aa (bj DA bf (pv 2)) ag)) (bj nD (bb (aW.mono (by decide)) hr rfl (aa (pv 0) (aa aw ag))) (eI u7 rfl T.n_int (by rfl) (aa (dk qv (pv 2) aw (aH _)) ag))))))) ba)
  (ao (aM (rT rfl rfl T.n_list rfl T.n_zip (aa (bb (pq.mono (by decide)) hr rfl (aa (pv 0) (aa (aq (dE K) rfl T.n_len (by rfl) (aa (pv 4) ag)) ag))) (aa (pv 4) ag)))))))))),?_⟩
 refine⟨_,rfl,b,c,t,8,rfl,bx,by omega,by omega,by decide,by decide,fun way H1 w0 w1 gw=>gn ?_⟩
 refine⟨_,rfl,b,c,_,rfl,gw.bx,by omega,by omega,fun m o tp H2 t2 m0 m1 o0 o1 bQ htp=>⟨tp,_,rfl,fw.of htp,rfl,_,_,rfl,_,_,rfl,rfl,?_⟩⟩
 have bQ:=gw.trans bQ
 have Pf:=bQ.ub
 have OE:=bQ.le
 refine⟨_,rfl,_,rfl,_,rfl,b,c,t2,m,o,rfl,bQ.bx,by omega,by omega,m0,m1,o0,o1,fun cs l H3 t3 _ le _ cd cS hl hW=>gn ?_⟩
 obtain⟨lb,lc⟩:=bQ.bx.cg hl
 have cS:=bQ.trans cS
 have FX:∀x∈cs,bu 12 x:=fun x hx=>(cd x hx).mono (by omega)
 dsimp only
 refine cz (t:=uJ _ _ _) (fun σ H'=>bO fun(cs:List Str) (l:Addr) =>σ=[some (.ref b),some (.int way),some (.int m),some (.int o),some (.ref l)]/\l≠b/\l≠c/\cs.length<=13/\(∀x∈cs,bu 12 x)/\Step b c H H' t t3 44/\H' l=some (.lst (cs.map V.str))) (fun Nx nx =>?_) ?_
 ·refine⟨_,rfl,.inl ⟨rfl,_,rfl,eX (fun _ =>?_) (fun _=>nx _ _ ⟨cs,l,rfl,lb,lc,by omega,FX,cS,hW⟩)⟩⟩
  have GF:∀{k:Nat} (hk:k<cs.length),(cs.map V.str)[k]? = some (.str cs[k]):=fun hk=>by rw[Jl,Jg hk];rfl
  refine⟨_,rfl,l,rfl,⟨_,aD.of hW⟩,?_⟩
  refine aV (N:=cs.length) (fun k ys H'=>H'=H3/\ys=((cs.take k).map fun x=>Txt.slice (Txt.mul x 8) none (some o)).map V.str) ⟨rfl,rfl⟩ ?_ ?_
  ·rintro k ys H4 Ny hk ⟨rfl,rfl⟩ ny
   refine⟨⟨_,_,aD.of hW,GF hk⟩,small (by rw[Ja,Ja,J6];omega),?_⟩
   rintro x H5 ⟨rfl,hy⟩
   have e:=hy _ (aD.of hW)
   rw[GF hk] at e;cases e
   have hle:=(FX _ (Jn hk)).le
   have OD:=qU (FX _ (Jn hk)).pos
   refine gn ⟨_,rfl,.inr ⟨_,_,rfl,rfl,gJ (by omega) (by decide) (by decide),_,rfl,o,rfl,.inr ⟨_,rfl,Uy (small (by omega)),ny _ _ ⟨rfl,?_⟩⟩⟩⟩
   rw[List.take_succ_eq_append_getElem hk,Jh,Jh];rfl
  rintro ys H4 ⟨rfl,rfl⟩
  refine⟨⟨_,aD.of hW,by rw[Ja];exact Jf _⟩,fun p hp =>?_⟩
  rw[J3]
  obtain⟨zs,A1⟩:∃zs,zs=cs.map fun x=>Txt.slice (Txt.mul x 8) none (some o):=⟨_,rfl⟩
  rw[<-A1]
  obtain⟨H5,n5⟩:∃H5,dM H4 p (.lst (zs.map V.str)) H5:=⟨_,hp,rfl⟩
  rw[<-n5.eq]
  have zl:zs.length=cs.length:=by rw[A1,Ja]
  have ev:∀x∈zs,bu 12 x:=fun x hx=>by
   rw[A1] at hx
   refine ae.el (J0.mp hx) _ ?_
   rintro y hy rfl
   exact LI (FX y hy) o0 o1
  have ol:(qy zs).length<=zs.length:=iJ _ _
  refine⟨p,zs,rfl,aD.of n5.at,by omega,fun a H6 n6=>⟨a,qy zs,rfl,n6.at,rj,by omega,fun ms l7 H7 pm n7=>gn ?_⟩⟩
  have qX:=(cS.e9 n5).e9 n6
  obtain⟨lb7,lc7⟩:=qX.bx.cg n7.nn
  have ml:=pm.length_eq
  exact nx _ _ ⟨ms,l7,rfl,lb7,lc7,by omega,fun x hx=>ev x (yT (pm.mem_iff.mp hx)),qX.e9 n7,n7.at⟩
 clear le cd FX hW lb lc hl
 intro σ H4
 refine ae.go ?_
 rintro cs l rfl lb lc le cd jR Av
 refine cz (t:=uJ _ _ _) (fun σ H'=>fq fun(cs:List Str) (l:Addr) (t':Int) =>σ=[some (.ref b),some (.int way),some (.int m),some (.int o),some (.ref l)]/\l≠b/\l≠c/\cs.length<=13/\(∀x∈cs,bu 12 x)/\Step b c H H' t t' 45/\H' l=some (.lst (cs.map V.str))) (fun Nx nx =>?_) ?_
 ·refine⟨_,rfl,.inl ⟨rfl,_,rfl,eX (fun _ =>?_) (fun _=>nx _ _ ⟨cs,l,t3,rfl,lb,lc,by omega,cd,jR.more (by omega),Av⟩)⟩⟩
  obtain⟨k,rfl⟩:∃k:Nat,m=k:=⟨m.toNat,by omega⟩
  refine⟨_,rfl,_,rfl,by omega,by omega,?_⟩
  refine aV (N:=k) (fun i ys H'=>H'=H4/\ys=((We i).map fun(j:Nat)=>Txt.mul (Str.ofString "1") (j:Int)++Str.ofString "0").map V.str) ⟨rfl,rfl⟩ ?_ ?_
  ·rintro i ys H5 Ny hi ⟨rfl,rfl⟩ ny
   refine⟨by show i<((k:Nat):Int).toNat;omega,small (by rw[Ja,Ja,Yp];omega),?_⟩
   rintro x H6 ⟨rfl,rfl⟩
   refine gn ?_
   rw[show(0+(i:Int))=((i:Nat):Int) by omega]
   refine⟨_,rfl,.inr ⟨_,_,rfl,rfl,gJ (by show 1<=1000;decide) (by omega) (by omega),.inr (.inl ⟨_,_,rfl,rfl,Uy (small (by rw[su];show i+1<=1000;omega)),ny _ _ ⟨rfl,?_⟩⟩)⟩⟩
   rw[List.range_succ,Jh,Jh]
   rfl
  rintro ys H5 ⟨rfl,rfl⟩
  refine⟨by show((k:Nat):Int).toNat<=k;omega,fun p hp =>?_⟩
  obtain⟨us,GY⟩:∃us:List Str,us=(We k).map fun(j:Nat)=>Txt.mul (Str.ofString "1") (j:Int)++Str.ofString "0":=⟨_,rfl⟩
  rw[<-GY]
  have ul:us.length=k:=by rw[GY,Ja,Yp]
  have uc:∀x∈us,bu 12 x:=fun x hx=>by
   rw[GY] at hx
   refine ae.el (J0.mp hx) _ ?_
   rintro j hj rfl
   exact zC (by have:=Wr.mp hj;omega)
  obtain⟨H6,n6⟩:∃H6,dM H5 p (.lst (us.map V.str)) H6:=⟨_,hp,rfl⟩
  rw[<-n6.eq]
  refine⟨_,rfl,.inr ⟨_,_,rfl,rfl,gJ (by show 1<=1000;decide) (by omega) (by omega),by show 1<=sizeLine;decide,fun p7 H7 n7 =>?_⟩⟩
  have rn:=(jR.e9 n6).e9 n7
  have RH:=rn.ub
  have RR:=rn.le
  refine⟨_,rfl,b,c,_,2,rfl,rn.bx,by omega,by omega,by decide,by decide,fun r H8 r0 r1 vT =>?_⟩
  obtain⟨pb7,pc7⟩:=(jR.e9 n6).bx.cg n7.nn
  obtain⟨pb,pc⟩:=jR.bx.cg n6.nn
  have y6:=vT.old n7.at pb7 pc7
  have K5:=vT.old (n7.same _ _ n6.at) pb pc
  have vT:=rn.trans vT
  refine⟨_,rfl,_,_,rfl,rfl,.inr ⟨_,rfl,.inl ⟨_,_,rfl,rfl,.inl ⟨by omega,by omega⟩,?_⟩⟩⟩
  obtain⟨n,hn,hn'⟩:∃n:Int,r*(if decide ((k:Int)<12)=true then 1 else 0)=n/\(n=0∨n=1/\k<12):=by
   refine⟨_,rfl,?_⟩
   by_cases h:(k:Int)<12
   ·rw[if_pos (decide_eq_true h)];omega
   ·rw[if_neg (by rw[decide_eq_false h];decide)];omega
  rw[hn]
  refine .inr ⟨p7,n,_,rfl,rfl,y6,by omega,by omega,?_,fun p9 H9 n9 =>?_⟩
  ·exact Uy (small (by show 1*n.toNat<=1000;omega))
  have E5:=vT.e9 n9
  refine .inr (.inr ⟨p,p9,_,_,rfl,rfl,n9.same _ _ K5,n9.at,Uy (small ?_),fun pA HA nA=>gn ?_⟩)
  ·rw[Ja,ul]
   rcases hn' with e|⟨e,_⟩<;>rw[e]<;>simp<;>omega
  obtain⟨pbA,pcA⟩:=E5.bx.cg nA.nn
  have IE:=nA.at
  rcases hn' with e|⟨e,hk12⟩
  ·rw[e] at IE
   exact nx _ _ ⟨us,pA,_,rfl,pbA,pcA,by omega,uc,E5.e9 nA,by rw[IE];exact congrArg (fun l=>some (HO.lst l)) (Uo _)⟩
  ·rw[e] at IE
   refine nx _ _ ⟨us++[Txt.mul (Str.ofString "1") (k:Int)],pA,_,rfl,pbA,pcA,by rw[Je];show us.length+1<=13;omega,fun x hx =>?_,E5.e9 nA,by rw[IE,Jh];rfl⟩
   rcases Ji.mp hx with h|h
   ·exact uc x h
   ·rw[Jd.mp h]
    exact⟨xV k,by rw[su];omega,by rw[su];omega⟩
 clear le cd Av lb lc jR
 intro σ H4
 refine ae.go ?_
 rintro cs l t4 rfl lb lc le cd jR Av
 have Rw:=jR.ub
 have RB:=jR.le
 have hlen:(cs.map V.str).length=cs.length:=Ja _
 refine⟨_,rfl,_,rfl,_,_,rfl,.inl ⟨_,aD.of Av,rfl⟩,b,c,_,_,rfl,jR.bx,by omega,by omega,by omega,by omega,fun xs l5 H5 t5 Bl nd ln dz qO hl55 =>?_⟩
 have PX:=dz.old Av lb lc
 have dz:=jR.trans dz
 refine⟨_,rfl,l5,l,_,_,rfl,aD.of hl55,aD.of PX,fun H7 p as sm hp hp7 D9 hpairs =>?_⟩
 have MQ:xs.length=cs.length:=by omega
 refine q (xs.zip cs) (.ref p) H7 t5 ?_ (wq dz.bx hp hp7 MQ D9 hpairs) ((dz.trans (Step.same dz.bx sm)).more (by omega))
 have h1:(xs.zip cs).map (·.1)=xs:=List.map_fst_zip (by omega)
 exact⟨by rw[List.length_zip];omega,by rw[h1];exact nd,fun z hz=>cd _ (Wh (a:=z.1) (b:=z.2) hz).2,fun z hz=>(ln _ (Wh (a:=z.1) (b:=z.2) hz).1).1,fun z hz=>(ln _ (Wh (a:=z.1) (b:=z.2) hz).1).2⟩
end
noncomputable def Ma (x:Str):Str:=Txt.slice x (some 1) none
theorem yV (x:Str):sg (Ma x)=(sg x).tail:=by
 have:=fG (x:=x) 1
 rw[List.drop_one] at this
 exact this
noncomputable abbrev iW (p:Str×Str):Sg×Sg:=(sg p.1,sg p.2)
theorem AW {p q:Str×Str}(h:iW p=iW q):p=q:=by
 obtain⟨a,b⟩:=p
 obtain⟨c,d⟩:=q
 injection h with h1 h2
 have h1:a=c:=df h1
 have h2:b=d:=df h2
 rw[h1,h2]
noncomputable abbrev eP:Str×Str:=(Str.ofString "",Str.ofString "")
noncomputable def cF (cs:List Str)(x:Str):List Str:=if 1<x.length then [Ma x] else cs
noncomputable def iU (cs:List Str)(p:Str×Str):List (Str×Str):=
 if (sg p.1).head? ≠ (sg p.2).head? ∨ sg p.1=[] then [] else if p.1.length=1/\p.2.length=1 then [eP] else (cF cs p.1).flatMap fun f=>(cF cs p.2).map fun s=>(f,s)
theorem qN {cs:List Str}{x:Str}:(cF cs x).map sg=if 1<(sg x).length then [(sg x).tail] else cs.map sg:=by
 have e:x.length=(sg x).length:=str_len x
 unfold cF
 rw[e]
 split
 ·rw[List.map_singleton,yV]
 ·rfl
theorem tQ {cs:List Str}(p:Str×Str):(iU cs p).map iW=nx (cs.map sg) (iW p):=by
 have e1:p.1.length=(sg p.1).length:=str_len _
 have e2:p.2.length=(sg p.2).length:=str_len _
 unfold iU nx
 rw[e1,e2]
 split
 ·rfl
 ·split
  ·rfl
  ·rw[List.map_flatMap,<-qN,<-qN,List.flatMap_map]
   congr 1
   funext f
   rw[Ye,Ye];rfl
def bV (H:Hp)(z:Addr×(Str×Str)):Prop:=H z.1=some (.tup [.str z.2.1,.str z.2.2])
noncomputable abbrev refs (zs:List (Addr×(Str×Str))):List V:=zs.map fun z=>V.ref z.1
def uq (K:Jc):Sp:=fun vs H Q _=>lU fun(l a:Addr) (cs:List Str) (p:Str×Str)=>vs=[.ref l,.ref a]/\H l=some (.lst (cs.map V.str))/\bV H (a,p)/\cs.length<=16/\1<=p.1.length/\p.1.length<=12/\1<=p.2.length/\p.2.length<=12 /\
 ∀(zs:List (Addr×(Str×Str))) (r:Addr) (H':Hp),au H H'->H r=none->H' r=some (.lst (refs zs))->zs.map (·.2)=iU cs p->(∀z∈zs,bV H' z)->Q (.ref r) H'
theorem bV.same {H H':Hp}{z:Addr×(Str×Str)}(h:bV H z)(s:au H H'):bV H' z:=s _ _ h
theorem qw {cs:List Str}(h:cs.length<=16)(x:Str):(cF cs x).length<=16:=by
 unfold cF;split
 ·show 1<=16;decide
 ·exact h
theorem yr {K:Jc}{σ:L2.St}{i:Nat}{l:Addr}{z:Str}{cs:List Str}{H:Hp}{Qn:VK}(h0: σ[0]? = some (some (.ref l)))(hi: σ[i]? = some (some (.str z)))(hz:z.length<=12)(hl:H l=some (.lst (cs.map V.str)))
  (k:∀p H4,au H H4->H4 p=some (.lst ((cF cs z).map V.str))->(p=l∨H p=none)->Qn (.ref p) H4) :
  HL (Bo (Hd (D3 fun i j=>V.bl (decide (j<i))) (Iq (fun xs H Q=>∃x n,xs=[x]/\Dh K x H n/\Q (V.int (n:Nat)) H) (tx (wx i) AK)) (tC (V.int 1)))) (yo (tx (Od (He K) (wx i) (Bq (tC (V.int 1))) fh) AK)) (wx 0) σ H Qn:=by
 refine⟨_,hi,_,_,rfl,⟨sizeOk (by omega),rfl⟩,_,_,rfl,rfl,_,rfl,eX (fun c =>?_) (fun c=>⟨_,h0,k l H (au.refl _) ?_ (.inl rfl)⟩)⟩
 ·have c:=of_decide_eq_true c
  refine⟨_,hi,_,rfl,?_⟩
  dsimp only[fh]
  refine .inr ⟨z,rfl,sizeOk (by omega),by show 1<=sizeLine;decide,fun r H4 n4=>k r H4 n4.same ?_ (.inr n4.nn)⟩
  unfold cF;rw[if_pos (by omega)];exact n4.at
 ·unfold cF;rw[if_neg (fun z=>c (decide_eq_true (by omega)))];exact hl
section
variable {P:Program}{w:World}{K:Jc}{mg:Str->Option Value}{base:Heap}{f:Addr}{fd:FuncData}
theorem du:aN ["_law_codes", "_law_pair", "_law_one", "_law_other", "_law_found", "_law_first"] ["_law_codes", "_law_pair"] (aB (top gX)):=⟨rfl,rfl,rfl,by decide +kernel,rfl,by decide +kernel,by decide +kernel⟩
theorem CI (F:cY K "_law_steps" "_law_steps" (top gX) f fd)(T:Nm mg):bI P w K mg base fY 1 f fd ["_law_codes", "_law_pair"] (uq K):=by
 refine F.ok du (fun vs H Q E h =>?_) (fun d9 A outer s H vs Q E hr h =>?_)
 ·obtain⟨l,a,cs,p,rfl,_⟩:=h
  rfl
 unfold uq at h
 refine ae.el h _ ?_
 clear h
 rintro l a cs p rfl hl hp cl x0 x1 y0 y1 q
 obtain⟨x,y⟩:=p
 have eZ:=hr.units
 have small:∀{n:Nat},n<=1000->n<sizeLine:=fun h=>Ue h (by decide)
 have ex:x.length=(sg x).length:=str_len x
 have ey:y.length=(sg y).length:=str_len y
 dsimp only at x0 x1 y0 y1
 obtain⟨cx,sx,hx⟩:∃c r,sg x=c::r:=by
  cases h:sg x with
  | nil=>rw[h] at ex;simp at ex;omega
  | cons c r=>exact⟨c,r,rfl⟩
 obtain⟨cy,sy,hy⟩:∃c r,sg y=c::r:=by
  cases h:sg y with
  | nil=>rw[h] at ey;simp at ey;omega
  | cons c r=>exact⟨c,r,rfl⟩
 have ax:rO x.cps.toList 0=some cx:=m7 (by decide) (by show(sg x)[0]? = _;rw[hx];rfl)
 have ay:rO y.cps.toList 0=some cy:=m7 (by decide) (by show(sg y)[0]? = _;rw[hy];rfl)
 refine⟨_,(ah (oO (pv 1) (tupK K 2 rfl (aJ (ak (i:=2) du.nd rfl (Or.inl rfl)) (aJ (ak (i:=3) du.nd rfl (Or.inl rfl)) cB))))
  (ah (cb (aI (oP K eZ) (ji (A3 K) (pv 2) aw (fun _ _=>rfl)) (ji (A3 K) (pv 3) aw (fun _ _=>rfl)) (aH _)) (ao (aM (eS ag))) ba)
  (ah (cb (PW.pt (jj (aI (vU K eZ) (aq (dE K) rfl T.n_len (by rfl) (aa (pv 2) ag)) aw (aH _)) (hX (aI (vU K eZ) (aq (dE K) rfl T.n_len (by rfl) (aa (pv 3) ag)) aw (aH _))))) (ao (aM (eS (aa (fA (aa bf (aa bf ag))) ag)))) ba)
  (ah (aL (i:=4) du.nd rfl (Or.inl rfl) (eS ag))
  (ah (eY PassesOwn.never rfl (gr K (dP (aI xy (aq (dE K) rfl T.n_len (by rfl) (aa (pv 2) ag)) aw (aH _)) (eS (aa (cI (Ai K) (pv 2) (dj aw) dr) ag)) (pv 0))) (ak (i:=5) du.nd rfl (Or.inr rfl)) (ao (cX (sr K PySem.F.plainAttrs_list PySem.F.slot_list_extend PySem.F.type_list_extend jh (pv 4) (aa (bg rfl (aK (Nc:=["_law_second"]) (Fc:=["_law_first"]) (js:=[5])) (gr K (dP (aI xy (aq (dE K) rfl T.n_len (by rfl) (aa (pv 3) ag)) aw (aH _)) (eS (aa (cI (Ai K) (pv 3) (dj aw) dr) ag)) (pv 0))) (aA (i:=0) (n:=1) (by decide)) (fun _ _ _ _ _=>(ak (i:=0) (dN ["_law_second", "_law_first"]) rfl (Or.inl rfl))) (fun _ _ _ _ _=>aX) (fun _ _ _ _ _=>(fA (aa (pv 1) (aa (pv 0) ag))))) ag)))))
  (ao (aM (pv 4)))))))),?_⟩
 refine⟨_,rfl,a,_,rfl,fw.of hp,rfl,_,_,rfl,_,_,rfl,rfl,?_⟩
 refine⟨_,rfl,.inr (.inr ⟨x,_,cx,rfl,rfl,sizeOk (by omega),ax,_,rfl,.inr (.inr ⟨y,_,cy,rfl,rfl,sizeOk (by omega),ay,.inl ⟨rfl,_,rfl,?_⟩⟩)⟩)⟩
 have Oe:(!decide (V.str ⟨#[cx]⟩=V.str ⟨#[cy]⟩))=true↔(sg x).head? ≠ (sg y).head?:=by
  rw[hx,hy]
  by_cases h:cx=cy
  ·subst h;simp
  ·rw[decide_eq_false (fun z=>h (by injection z with z;injection z with z;simpa using z))]
   exact⟨fun _ z=>h (Option.some.inj z),fun _=>rfl⟩
 refine eX (fun c=>⟨by show 0<=sizeLine;decide,fun r H1 n1=>q [] r H1 n1.same n1.nn n1.at ?_ (fun z h=>nomatch h)⟩) (fun c =>?_)
 ·unfold iU;rw[if_pos (.inl (Oe.mp c))];rfl
 have hZ:¬((sg x).head? ≠ (sg y).head? ∨ sg x=[]):=fun z=>z.elim (fun z=>c (Oe.mpr z)) fun z=>by rw[hx] at z;cases z
 dsimp only[qF]
 refine cz (t:=uJ _ _ _) (fun σ H'=>H'=H /\ σ=[some (.ref l),some (.ref a),some (.str x),some (.str y),none,none]/\¬(x.length=1/\y.length=1)) (fun Nx nx =>?_) ?_
 ·refine⟨_,rfl,_,_,rfl,⟨sizeOk (by omega),rfl⟩,.inl ⟨rfl,_,rfl,eX (fun c1 =>?_) (fun c1=>bA (nx _ _ ⟨rfl,rfl,fun z=>c1 ?_⟩))⟩⟩
  ·refine⟨_,rfl,_,_,rfl,⟨sizeOk (by omega),rfl⟩,.inl ⟨rfl,_,rfl,eX (fun c2 =>?_) (fun c2=>nx _ _ ⟨rfl,rfl,fun z=>c2 ?_⟩)⟩⟩
   ·refine⟨by show 2<=sizeLine;decide,fun t H1 n1=>⟨by show 1<=sizeLine;decide,fun r H2 n2=>q [(t,eP)] r H2 (n1.same.trans n2.same) (n1.back n2.nn) n2.at ?_ (fun z hz =>?_)⟩⟩
    ·unfold iU
     rw[if_neg hZ,if_pos];rfl
     have e1:=of_decide_eq_true c1
     have e2:=of_decide_eq_true c2
     injection e1 with e1;injection e2 with e2
     exact⟨by show x.length=1;omega,by show y.length=1;omega⟩
    ·rw[Jd.mp hz];exact n2.same _ _ n1.at
   ·rw[z.2];rfl
  ·rw[z.1];rfl
 rintro σ H1 ⟨rfl,rfl,h11⟩
 refine⟨by show 0<=sizeLine;decide,fun pl H2 n2=>gn ?_⟩
 have EY:H1 pl=none:=n2.nn
 have Q2:iU cs (x,y)=(cF cs x).flatMap fun f=>(cF cs y).map fun s=>(f,s):=by
  unfold iU;rw[if_neg hZ,if_neg h11]
 rw[Q2] at q
 have fl:=qw cl x
 have Gh:=qw cl y
 obtain⟨fs,hfs⟩:∃fs,fs=cF cs x:=⟨_,rfl⟩
 obtain⟨ss,hss⟩:∃ss,ss=cF cs y:=⟨_,rfl⟩
 rw[<-hfs] at q fl
 rw[<-hss] at q Gh
 have RS:fs.length=1∨ss.length=1:=by
  rw[hfs,hss];unfold cF
  by_cases h1:1<x.length
  ·rw[if_pos h1];exact .inl rfl
  ·by_cases h2:1<y.length
   ·rw[if_pos h2];exact .inr rfl
   ·exact absurd ⟨by omega,by omega⟩ h11
 dsimp only
 have eE:∀{xs:List Str} {i:Nat} (hi:i<xs.length),(xs.map V.str)[i]? = some (.str xs[i]):=fun hi=>by rw[Jl,Jg hi];rfl
 refine cz (t:=nO _ _ _) (fun σ H'=>bO fun(x5:Option V) (zs:List (Addr×(Str×Str))) =>σ=[some (.ref l),some (.ref a),some (.str x),some (.str y),some (.ref pl),x5]/\au H1 H'/\H' pl=some (.lst (refs zs))/\zs.map (·.2)=fs.flatMap (fun f=>ss.map fun s=>(f,s))/\∀z∈zs,bV H' z) (fun Nx nx =>?_) ?_
 ·refine yr (K:=K) (i:=2) (cs:=cs) (l:=l) (z:=x) rfl rfl x1 (n2.same _ _ hl) fun p H3 s3 we hpn=>⟨p,rfl,⟨_,aD.of we⟩,?_⟩
  rw[<-hfs] at we
  have JZ:=n2.same.trans s3
  have QP:l≠pl:=ai hl n2.nn
  have P1:p≠pl:=hpn.elim (fun e=>e▸QP) fun e z=>by rw[z,n2.at] at e;cases e
  refine fQ (N:=fs.length) (fun i σ H'=>bO fun(x5:Option V) (zs:List (Addr×(Str×Str))) =>σ=[some (.ref l),some (.ref a),some (.str x),some (.str y),some (.ref pl),x5]/\au H1 H'/\H' p=some (.lst (fs.map V.str))/\H' pl=some (.lst (refs zs))/\zs.map (·.2)=(fs.take i).flatMap (fun f=>ss.map fun s=>(f,s))/\∀z∈zs,bV H' z) ⟨_,[],rfl,JZ,we,s3 _ _ n2.at,rfl,fun z h=>nomatch h⟩ ?_ ?_
  ·intro i σ H4 hi
   refine ae.go ?_
   rintro x5 zs rfl s4 sv hpl4 ez hz
   refine⟨⟨_,_,aD.of sv,eE hi⟩,?_⟩
   rintro v H5 ⟨rfl,hv⟩
   have e:=hv _ (aD.of sv)
   rw[eE hi] at e;cases e
   refine gn ?_
   have cD:=aG hi
   generalize fs[i]=fi at cD
   dsimp only
   refine⟨_,rfl,.inl ⟨rfl,_,aD.of hpl4⟩,?_⟩
   refine yr (K:=K) (i:=3) (cs:=cs) (l:=l) (z:=y) rfl rfl y1 (s4 _ _ hl) fun p6 H6 s6 wA hpn6=>⟨p6,rfl,⟨_,aD.of wA⟩,?_⟩
   rw[<-hss] at wA
   refine aV (N:=ss.length) (fun k ys H'=>∃ws:List (Addr×(Str×Str)),ys=refs ws/\au H6 H'/\ws.map (·.2)=(ss.take k).map (fun s=>(fi,s))/\∀z∈ws,bV H' z) ⟨[],rfl,au.refl _,rfl,fun z h=>nomatch h⟩ ?_ ?_
   ·intro k ys H7 Ny hk hz_ ny
    refine ae.el hz_ _ ?_
    clear hz_
    rintro ws rfl s7 ew hw
    have wl:ws.length=k:=by
     have:=congrArg J9 ew
     rw[Ja,Ja,J6] at this
     omega
    refine⟨⟨_,_,aD.of (s7 _ _ wA),eE hk⟩,small (by rw[Ja];omega),?_⟩
    rintro v H8 ⟨rfl,hv⟩
    have e:=hv _ (aD.of (s7 _ _ wA))
    rw[eE hk] at e;cases e
    refine gn ?_
    dsimp only[fP]
    rw[if_pos rfl]
    refine⟨_,rfl,_,rfl,by show 2<=sizeLine;decide,fun t H9 n9=>ny _ _ ⟨ws++[(t,(fi,ss[k]))],by unfold refs;rw[Jh];rfl,s7.trans n9.same,?_,fun z hz =>?_⟩⟩
    ·rw[Jh,ew,aG hk,Jh];rfl
    ·rcases Ji.mp hz with hz|hz
     ·exact(hw z hz).same n9.same
     ·rw[Jd.mp hz];exact n9.at
   ·intro ys H7
    refine ae.go ?_
    rintro ws rfl s7 ew hw
    rw[J3] at ew
    have wl:ws.length=ss.length:=by
     have:=congrArg J9 ew
     rw[Ja,Ja] at this
     exact this
    refine⟨⟨_,aD.of (s7 _ _ wA),by rw[Ja];exact Jf _⟩,fun t ht =>?_⟩
    obtain⟨H8,n8⟩:∃H8,dM H7 t (.lst (refs ws)) H8:=⟨_,ht,rfl⟩
    rw[<-n8.eq]
    have Fh:=(s6.trans s7).trans n8.same
    have zl:zs.length<=16*i:=by
     have:=congrArg J9 ez
     rw[Ja,List.length_flatMap] at this
     rw[this]
     have:((fs.take i).map fun f=>(ss.map fun s=>(f,s)).length).sum<=16*(fs.take i).length:=by
      generalize fs.take i=gs
      induction gs with
      | nil=>exact Jf _
      | cons g gs ih=>rw[Uc,List.sum_cons,Jt,Ja];omega
     rw[J6] at this
     exact Ju this (Nat.mul_le_mul_left _ (Nat.min_le_left _ _))
    refine⟨pl,t,_,_,rfl,rfl,Fh _ _ hpl4,n8.at,by rw[Ja,Ja];exact sizeOk (by omega),fun H9 c9=>⟨_,zs++ws,rfl,fun b o e =>?_,?_,?_,?_,fun z hz' =>?_⟩⟩
    ·rw[c9.ne (ai e EY)];exact Fh _ _ (s4 b o e)
    ·rw[c9.ne P1];exact Fh _ _ sv
    ·rw[c9.at];unfold refs;rw[Jh]
    ·rw[Jh,ez,ew,cD,List.flatMap_append,List.flatMap_cons,List.flatMap_nil,Uo]
    ·have hold:∀{b:Addr} {us:List V},H8 b=some (.tup us)->H9 b=some (.tup us):=fun{b us} e=>by
      rw[c9.ne (fun z=>by rw[z,Fh _ _ hpl4] at e;cases e)];exact e
     rcases Ji.mp hz' with hz'|hz'
     ·exact hold (Fh _ _ (hz z hz'))
     ·exact hold (n8.same _ _ (hw z hz'))
  ·intro σ H4
   refine ae.go ?_
   rintro x5 zs rfl s4 sv hpl4 ez hz
   rw[J3] at ez
   exact⟨⟨_,aD.of sv,by rw[Ja];exact Jf _⟩,nx _ _ ⟨x5,zs,rfl,s4,hpl4,ez,hz⟩⟩
 intro σ H3
 refine ae.go ?_
 rintro x5 zs rfl s3 mG ez hz
 exact⟨_,rfl,q zs pl H3 s3 EY mG ez hz⟩
end
structure mY (cs:List Str):Prop where
 le:cs.length<=16
 cd:∀c∈cs,bu 12 c
def oS (cs:List Str)(x:Str):Prop:=∃c∈cs,∃a,a<(sg c).length/\sg x=(sg c).drop a
def gj (cs:List Str)(p:Str×Str):Prop:=oS cs p.1/\oS cs p.2
theorem oS.code {cs:List Str}(g:mY cs){c:Str}(h:c∈cs):oS cs c:=⟨c,h,0,by have:=(g.cd c h).pos;have e:c.length=(sg c).length:=str_len c;omega,rfl⟩
theorem oS.len {cs:List Str}(g:mY cs){x:Str}(h:oS cs x):1<=x.length/\x.length<=12:=by
 obtain⟨c,hc,a,ha,e⟩:=h
 have h1:=(g.cd c hc).le
 have e1:c.length=(sg c).length:=str_len c
 have e2:x.length=(sg x).length:=str_len x
 rw[e,Uw] at e2
 omega
theorem oS.bin {cs:List Str}(g:mY cs){x:Str}(h:oS cs x):jo x:=fun ch hc=>by
 obtain⟨c,jO,a,ha,e⟩:=h
 have hc:ch∈sg x:=hc
 rw[e] at hc
 exact(g.cd c jO).bin ch (Wq hc)
theorem oS.tl {cs:List Str}{x:Str}(h:oS cs x)(h1:1<x.length):oS cs (Ma x):=by
 obtain⟨c,hc,a,ha,e⟩:=h
 have e2:x.length=(sg x).length:=str_len x
 refine⟨c,hc,a+1,?_,?_⟩
 ·rw[e,Uw] at e2;omega
 ·rw[yV,e,List.tail_drop]
theorem oS.first {cs:List Str}(g:mY cs){x y:Str}(h:oS cs x)(hy:y∈cF cs x):oS cs y:=by
 unfold cF at hy
 split at hy
 ·rw[Jd.mp hy];exact h.tl (by assumption)
 ·exact oS.code g hy
theorem gj.next {cs:List Str}(g:mY cs){p q:Str×Str}(h:gj cs p)(hq:q∈iU cs p):q=eP∨gj cs q:=by
 unfold iU at hq
 split at hq
 ·cases hq
 ·split at hq
  ·exact .inl (Jd.mp hq)
  ·obtain⟨f,hf,hq⟩:=List.mem_flatMap.mp hq
   obtain⟨s,hs,rfl⟩:=J0.mp hq
   exact .inr ⟨h.1.first g hf,h.2.first g hs⟩
noncomputable def Cn (cs:List Str):List Str:=cs.flatMap fun c=>(We (sg c).length).map fun a=>⟨((sg c).drop a).toArray⟩
theorem oS.mem {cs:List Str}{x:Str}(h:oS cs x):x∈Cn cs:=by
 obtain⟨c,hc,a,ha,e⟩:=h
 refine List.mem_flatMap.mpr ⟨c,hc,J0.mpr ⟨a,Wr.mpr ha,df ?_⟩⟩
 show((sg c).drop a).toArray.toList=_
 rw[Yo];exact e.symm
theorem zL {cs:List Str}(h:∀c∈cs,bu 12 c):(Cn cs).length<=12*cs.length:=by
 induction cs with
 | nil=>exact Jf _
 | cons c cs ih=>
  have h1:=ih fun x hx=>h x (Jq _ hx)
  have h2:=(h c Js).le
  have e:c.length=(sg c).length:=str_len c
  show(((We (sg c).length).map _)++Cn cs).length<=_
  rw[Je,Ja,Yp,Jt]
  omega
noncomputable def zo (cs:List Str):List (Str×Str):=eP::(Cn cs).flatMap fun x=>(Cn cs).map fun y=>(x,y)
theorem yM {cs:List Str}(g:mY cs):(zo cs).length<=40000:=by
 have h1:=zL g.cd
 have h2:=g.le
 have key:∀(l m:List Str),(l.flatMap fun x=>m.map fun y=>(x,y)).length=l.length*m.length:=fun l m=>by
  induction l with
  | nil=>simp
  | cons a l ih=>rw[List.flatMap_cons,Je,ih,Ja,Jt,Nat.succ_mul];omega
 unfold zo
 rw[Jt,key]
 have:(Cn cs).length*(Cn cs).length<=192*192:=Nat.mul_le_mul (by omega) (by omega)
 omega
theorem gj.mem {cs:List Str}{p:Str×Str}(h:p=eP∨gj cs p):p∈zo cs:=by
 rcases h with rfl|⟨h1,h2⟩
 ·exact Js
 ·exact Jq _ (List.mem_flatMap.mpr ⟨p.1,h1.mem,J0.mpr ⟨p.2,h2.mem,rfl⟩⟩)
noncomputable def pk (p:Str×Str):List Key:=[.inr p.1,.inr p.2]
theorem lI {p q:Str×Str}(h:pk p=pk q):p=q:=by
 obtain⟨a,b⟩:=p
 obtain⟨c,d⟩:=q
 injection h with h1 h2
 injection h2 with h2 _
 injection h1 with h1
 injection h2 with h2
 rw[show a=c from h1,show b=d from h2]
noncomputable def l9 (r:(Str×Str)×Addr):List Key×V:=(pk r.1,.ref r.2)
def gI (cs:List Str)(H:Hp)(r:(Str×Str)×Addr):Prop:=∃zs,H r.2=some (.lst (refs zs))/\zs.map (·.2)=iU cs r.1/\∀z∈zs,bV H z
theorem gI.same {cs:List Str}{H H':Hp}{r:(Str×Str)×Addr}(h:gI cs H r)(s:au H H'):gI cs H' r:=by
 obtain⟨zs,h1,h2,h3⟩:=h
 exact⟨zs,s _ _ h1,h2,fun z hz=>(h3 z hz).same s⟩
theorem bV.chg {H H':Hp}{a:Addr}{o u:HO}(c:jT H a o H')(ha:H a=some u)(nt:∀xs,u ≠ .tup xs){z:Addr×(Str×Str)}(h:bV H z):bV H' z:=by
 unfold bV
 rw[c.ne (fun e=>by have h:=h;unfold bV at h;rw[e,ha] at h;exact nt _ (Option.some.inj h))]
 exact h
theorem gI.chg {cs:List Str}{H H':Hp}{a:Addr}{o u:HO}(c:jT H a o H')(ha:H a=some u)(nt:∀xs,u ≠ .tup xs){r:(Str×Str)×Addr}(h:gI cs H r)(ne:r.2≠a):gI cs H' r:=by
 obtain⟨zs,h1,h2,h3⟩:=h
 exact⟨zs,by rw[c.ne ne];exact h1,h2,fun z hz=>(h3 z hz).chg c ha nt⟩
structure HM (cs:List Str)(rs:List ((Str×Str)×Addr)):Prop where
 nd:(rs.map (·.1)).Nodup
 le:rs.length<=40000
 fin:eP∈rs.map (·.1)
 ok:∀p∈rs.map (·.1),p=eP∨(gj cs p/\Rc (cs.map sg) (iW p))
 ini:∀d∈cs,∀a,1<=a->a<(sg d).length->∀p:Str×Str,sg p.1=(sg d).drop a->p.2∈cs->p∈rs.map (·.1)
 cl:∀p∈rs.map (·.1),∀q∈iU cs p,q∈rs.map (·.1)
def sX (K:Jc):Sp:=fun vs H Q _=>bO fun(l:Addr) (cs:List Str)=>vs=[.ref l]/\H l=some (.lst (cs.map V.str))/\mY cs /\
 ∀(d:Addr) (rs:List ((Str×Str)×Addr)) (H':Hp),au H H'->H d=none->H' d=some (.dT (rs.map l9))->HM cs rs->(∀r∈rs,gI cs H' r)->Q (.ref d) H'
theorem ya {K:Jc}{H:Hp}:∀{ws:List (Addr×(Str×Str))},(∀z∈ws,bV H z)->aO K H (ws.map fun z =>.tuple [.str z.2.1,.str z.2.2]) (refs ws)
 | [],_=>by unfold aO;rfl
 | z::ws,h=>by
  unfold refs
  rw[Uc,Uc]
  unfold aO
  refine⟨_,_,rfl,?_,ya fun y hy=>h y (Jq _ hy)⟩
  unfold Den
  refine⟨z.1,_,rfl,fw.of (h z Js),?_⟩
  unfold aO
  refine⟨_,_,rfl,by unfold Den;rfl,?_⟩
  unfold aO
  refine⟨_,_,rfl,by unfold Den;rfl,?_⟩
  unfold aO;rfl
theorem Mu {ws:List (Addr×(Str×Str))}(h:∀z∈ws,jo z.2.1/\jo z.2.2):SeqAt.shaped (.list (ws.map fun z =>.tuple [.str z.2.1,.str z.2.2]))=true:=(Sh.list (n:=1) fun d hd=>by
 obtain⟨z,hz,rfl⟩:=J0.mp hd
 refine Sh.tuple fun e he =>?_
 simp at he
 rcases he with rfl|rfl
 ·exact Sh.str (dm fun ch hc=>by rcases(h z hz).1 ch hc with e|e<;>omega)
 ·exact Sh.str (dm fun ch hc=>by rcases(h z hz).2 ch hc with e|e<;>omega)).shaped (by decide)
theorem qI (rs:List ((Str×Str)×Addr)):(rs.map l9).map (·.1)=(rs.map (·.1)).map pk:=by rw[Ye,Ye];rfl
theorem xn {rs:List ((Str×Str)×Addr)}{p:Str×Str}:(av (rs.map l9) (pk p)).isSome=true↔p∈rs.map (·.1):=by
 cases hv:av (rs.map l9) (pk p) with
 | none=>
  refine⟨(fun h=>nomatch h),fun h=>absurd ?_ (gQ hv)⟩
  rw[qI];exact J8 h
 | some v=>
  refine⟨fun _ =>?_,fun _=>rfl⟩
  have:=oB hv
  rw[qI] at this
  obtain⟨x,hx,e⟩:=J0.mp this
  rw[<-lI e];exact hx
theorem ou {cs:List Str}(h:cs.length<=16)(p:Str×Str):(iU cs p).length<=16:=by
 have key:∀(l m:List Str),(l.flatMap fun x=>m.map fun y=>(x,y)).length=l.length*m.length:=fun l m=>by
  induction l with
  | nil=>simp
  | cons a l ih=>rw[List.flatMap_cons,Je,ih,Ja,Jt,Nat.succ_mul];omega
 unfold iU
 split
 ·decide
 ·split
  ·decide
  ·rename_i h0 h1
   rw[key]
   unfold cF
   have kb:1<=p.1.length:=by
    have e:p.1.length=(sg p.1).length:=str_len _
    cases h:sg p.1 with
    | nil=>exact absurd (.inr h) h0
    | cons a r=>rw[e,h];simp
   have nW:1<=p.2.length:=by
    have e:p.2.length=(sg p.2).length:=str_len _
    cases h:sg p.2 with
    | nil=>
     cases h':sg p.1 with
     | nil=>exact absurd (.inr h') h0
     | cons a r=>exact absurd (.inl (by rw[h,h'];simp)) h0
    | cons a r=>rw[e,h];simp
   by_cases c1:1<p.1.length
   ·rw[if_pos c1]
    show 1*_<=16
    split
    ·show 1*1<=16;decide
    ·omega
   ·rw[if_neg c1,if_pos (by omega)]
    show _*1<=16
    omega
section
variable {P:Program}{w:World}{K:Jc}{mg:Str->Option Value}{base:Heap}{f:Addr}{fd:FuncData}
theorem cJ:aN ["_law_codes", "_law_waiting", "_law_code", "_law_place", "_law_found", "_law_pair"] ["_law_codes"] (aB (top gK)):=⟨rfl,rfl,rfl,by decide +kernel,rfl,by decide +kernel,by decide +kernel⟩
theorem D1 (F:cY K "_law_pairs" "_law_pairs" (top gK) f fd)(T:Nm mg)(pM:Fn P w K mg base 1 "_law_steps" ["_law_codes", "_law_pair"] (uq K)):bI P w K mg base fY 2 f fd ["_law_codes"] (sX K):=by
 refine F.ok cJ (fun vs H Q E h =>?_) (fun d9 A outer s H vs Q E hr h =>?_)
 ·obtain⟨l,cs,rfl,_⟩:=h
  rfl
 unfold sX at h
 refine ae.el h _ ?_
 clear h
 rintro l cs rfl hl g q
 have hu:=gA hr
 have eZ:=hr.units
 have hle:=g.le
 have small:∀{n:Nat},n<=1000->n<sizeLine:=fun h=>Ue h (by decide)
 have big:∀{n:Nat},n<=5000000->n<sizeLine:=fun h=>Ue h (by decide)
 have eE:∀{xs:List Str} {i:Nat} (hi:i<xs.length),(xs.map V.str)[i]? = some (.str xs[i]):=fun hi=>by rw[Jl,Jg hi];rfl
 refine⟨_,(ah (aL (i:=1) cJ.nd rfl (Or.inl rfl) (eS ag))
  (ah (eY PassesOwn.never rfl (gr K (pv 0)) (ak (i:=2) cJ.nd rfl (Or.inr rfl)) (ao (eY PassesOwn.never rfl (jv rfl T.n_range (aa aw (aa (aq (dE K) rfl T.n_len (by rfl) (aa (pv 2) ag)) ag))) (ak (i:=3) cJ.nd rfl (Or.inr rfl)) (ao (cX (sr K PySem.F.plainAttrs_list PySem.F.slot_list_extend PySem.F.type_list_extend jh (pv 1) (aa (bg rfl (aK (Nc:=["_law_other"]) (Fc:=["_law_code", "_law_place"]) (js:=[2,3])) (gr K (pv 0)) (aA (i:=0) (n:=1) (by decide)) (fun _ _ _ _ _=>(ak (i:=0) (dN ["_law_other", "_law_code", "_law_place"]) rfl (Or.inl rfl))) (fun _ _ _ _ _=>aX) (fun _ _ _ _ _=>(fA (aa (cI (Ai K) (pv 1) (dj (pv 2)) dr) (aa (pv 0) ag))))) ag)))))))
  (ah (aL (i:=4) cJ.nd rfl (Or.inl rfl) (o7 hu (fA (aa bf (aa bf ag))) (eS ag)))
  (ah (fJ PassesOwn.never (aI (oP K eZ) (pv 1) (eS ag) (aH _)) (ah (aL (i:=5) cJ.nd rfl (Or.inl rfl) (Ca K PySem.F.plainAttrs_list PySem.F.slot_list_pop PySem.F.type_list_pop Ep (pv 1)))
  (ao (cb (jI (fI hu (pv 5) (pv 4))) (ah (fv hu (pv 4) (pv 5) (bb (pM.mono (by decide)) hr rfl (aa (pv 0) (aa (pv 5) ag))) rfl)
  (ao (cX (sr K PySem.F.plainAttrs_list PySem.F.slot_list_extend PySem.F.type_list_extend jh (pv 1) (aa (bL hu (pv 4) (pv 5) (fun _ _=>rfl)) ag))))) ba))))
  (ao (aM (pv 4))))))),?_⟩
 refine⟨by show 0<=sizeLine;decide,fun wp H1 n1=>gn ?_⟩
 have y9:H wp=none:=n1.nn
 have lw:l≠wp:=ai hl y9
 dsimp only
 refine cz (t:=nO _ _ _) (fun σ H'=>fq fun(x2 x3:Option V) (ws:List (Addr×(Str×Str))) =>σ=[some (.ref l),some (.ref wp),x2,x3,none,none]/\au H H'/\H' wp=some (.lst (refs ws))/\ws.length<=4000/\(∀z∈ws,bV H' z/\gj cs z.2/\Rc (cs.map sg) (iW z.2))/\∀d∈cs,∀a,1<=a->a<(sg d).length->∀p:Str×Str,sg p.1=(sg d).drop a->p.2∈cs->p∈ws.map (·.2)) (fun Nx nx =>?_) ?_
 ·refine⟨_,rfl,l,rfl,⟨_,aD.of (n1.same _ _ hl)⟩,?_⟩
  refine fQ (N:=cs.length) (fun i σ H'=>fq fun(x2 x3:Option V) (ws:List (Addr×(Str×Str))) =>σ=[some (.ref l),some (.ref wp),x2,x3,none,none]/\au H H'/\H' wp=some (.lst (refs ws))/\ws.length<=200*i/\(∀z∈ws,bV H' z/\gj cs z.2/\Rc (cs.map sg) (iW z.2))/\∀d∈cs.take i,∀a,1<=a->a<(sg d).length->∀p:Str×Str,sg p.1=(sg d).drop a->p.2∈cs->p∈ws.map (·.2)) ⟨_,_,[],rfl,n1.same,n1.at,Jf _,(fun z h=>nomatch h),fun d h=>nomatch h⟩ ?_ ?_
  ·intro i σ H2 hi
   refine ae.go ?_
   rintro x2 x3 ws rfl s2 hw2 wl wz wc
   refine⟨⟨_,_,aD.of (s2 _ _ hl),eE hi⟩,?_⟩
   rintro v H3 ⟨rfl,hv⟩
   have e:=hv _ (aD.of (s2 _ _ hl))
   rw[eE hi] at e;cases e
   refine gn ?_
   have hm:=Jn hi
   have hc:=g.cd _ hm
   have cD:=aG hi
   generalize cs[i]=c at hm hc cD
   have RQ:=hc.pos
   have yh:=hc.le
   have ec:c.length=(sg c).length:=str_len c
   dsimp only
   refine⟨_,rfl,_,_,rfl,⟨sizeOk (by omega),rfl⟩,1,(c.length:Nat),rfl,⟨by omega,by omega,by omega,by omega⟩,?_⟩
   refine fQ (N:=c.length-1) (fun k σ H'=>bO fun(x3:Option V) (ws:List (Addr×(Str×Str))) =>σ=[some (.ref l),some (.ref wp),some (.str c),x3,none,none]/\au H H'/\H' wp=some (.lst (refs ws))/\ws.length<=200*i+16*k/\(∀z∈ws,bV H' z/\gj cs z.2/\Rc (cs.map sg) (iW z.2))/\(∀d∈cs.take i,∀a,1<=a->a<(sg d).length->∀p:Str×Str,sg p.1=(sg d).drop a->p.2∈cs->p∈ws.map (·.2))/\∀a,1<=a->a<=k->∀p:Str×Str,sg p.1=(sg c).drop a->p.2∈cs->p∈ws.map (·.2)) ⟨_,ws,rfl,s2,hw2,by omega,wz,wc,fun a h1 h2=>absurd h1 (by omega)⟩ ?_ ?_
   ·intro k σ H3 hk
    refine ae.go ?_
    clear wl wz wc hw2 s2
    rintro x3 ws rfl s3 wa wl wz wc wd
    refine⟨by show k<_;omega,?_⟩
    rintro v H4 ⟨rfl,rfl⟩
    refine gn ?_
    refine⟨_,rfl,.inl ⟨rfl,_,aD.of wa⟩,?_⟩
    have hW:=s3 _ _ hl
    refine⟨_,rfl,l,rfl,⟨_,aD.of hW⟩,?_⟩
    obtain⟨r,jP⟩:∃r,r=Txt.slice c (some ((1+k:Nat):Int)) none:=⟨_,rfl⟩
    have er:sg r=(sg c).drop (1+k):=by rw[jP];exact fG (x:=c) (1+k)
    refine aV (N:=cs.length) (fun j ys H'=>∃us:List (Addr×(Str×Str)),ys=refs us/\au H4 H'/\us.map (·.2)=(cs.take j).map (fun o=>(r,o))/\∀z∈us,bV H' z) ⟨[],rfl,au.refl _,rfl,fun z h=>nomatch h⟩ ?_ ?_
    ·intro j ys H5 Ny hj hz_ ny
     refine ae.el hz_ _ ?_
     clear hz_
     rintro us rfl s5 eu hu'
     have ul:us.length=j:=by
      have:=congrArg J9 eu
      rw[Ja,Ja,J6] at this
      omega
     refine⟨⟨_,_,aD.of (s5 _ _ hW),eE hj⟩,small (by rw[Ja];omega),?_⟩
     rintro v H6 ⟨rfl,hv⟩
     have e:=hv _ (aD.of (s5 _ _ hW))
     rw[eE hj] at e;cases e
     refine gn ?_
     dsimp only[fP]
     rw[if_pos rfl]
     refine⟨_,rfl,_,rfl,_,rfl,?_⟩
     dsimp only[fh]
     refine .inr ⟨c,rfl,sizeOk (by omega),?_⟩
     rw[show((1:Int)+(k:Int))=((1+k:Nat):Int) by omega,<-jP]
     refine⟨_,rfl,by show 2<=sizeLine;decide,fun t H7 n7=>ny _ _ ⟨us++[(t,(r,cs[j]))],by unfold refs;rw[Jh];rfl,s5.trans n7.same,?_,fun z hz =>?_⟩⟩
     ·rw[Jh,eu,aG hj,Jh];rfl
     ·rcases Ji.mp hz with hz|hz
      ·exact(hu' z hz).same n7.same
      ·rw[Jd.mp hz];exact n7.at
    ·intro ys H5
     refine ae.go ?_
     rintro us rfl s5 eu hu'
     rw[J3] at eu
     have ul:us.length=cs.length:=by
      have:=congrArg J9 eu
      rw[Ja,Ja] at this
      exact this
     refine⟨⟨_,aD.of (s5 _ _ hW),by rw[Ja];exact Jf _⟩,fun t ht =>?_⟩
     obtain⟨H6,n6⟩:∃H6,dM H5 t (.lst (refs us)) H6:=⟨_,ht,rfl⟩
     rw[<-n6.eq]
     have Lo:=s5.trans n6.same
     have me:=Lo _ _ wa
     refine⟨wp,t,_,_,rfl,rfl,me,n6.at,by rw[Ja,Ja];exact sizeOk (by omega),fun H7 c7=>⟨_,ws++us,rfl,fun b o e =>?_,?_,by rw[Je];omega,fun z hz =>?_,fun d hd a h1 h2 p e1 e2 =>?_,fun a h1 h2 p e1 e2 =>?_⟩⟩
     ·rw[c7.ne (ai e y9)];exact Lo _ _ (s3 b o e)
     ·rw[c7.at];unfold refs;rw[Jh]
     ·rcases Ji.mp hz with hz|hz
      ·obtain⟨h1,h2⟩:=wz z hz
       exact⟨(h1.same Lo).chg c7 me (fun _ z=>nomatch z),h2⟩
      ·refine⟨((hu' z hz).same n6.same).chg c7 me (fun _ z=>nomatch z),?_⟩
       have:z.2∈us.map (·.2):=J8 hz
       rw[eu] at this
       obtain⟨o,ho,e⟩:=J0.mp this
       rw[<-e]
       refine⟨⟨⟨c,hm,1+k,by omega,er⟩,oS.code g ho⟩,?_⟩
       have:=Rc.start (cs:=cs.map sg) (1+k) (sg c) (sg o) (by omega) (by omega) (J8 hm) (J8 ho)
       rw[<-er] at this
       exact this
     ·rw[Jh];exact Jx _ (wc d hd a h1 h2 p e1 e2)
     ·rw[Jh]
      by_cases hak:a<=k
      ·exact Jx _ (wd a h1 hak p e1 e2)
      ·refine Jj _ ?_
       rw[eu]
       have ea:a=1+k:=by omega
       rw[ea,<-er] at e1
       refine J0.mpr ⟨p.2,e2,?_⟩
       rw[<-df e1]
   ·intro σ H3
    refine ae.go ?_
    clear wl wz wc hw2 s2
    rintro x3 ws rfl s3 wa wl wz wc wd
    refine⟨by show _<=_;omega,_,_,ws,rfl,s3,wa,by omega,wz,fun d hd a h1 h2 p e1 e2 =>?_⟩
    rw[cD] at hd
    rcases Ji.mp hd with hd|hd
    ·exact wc d hd a h1 h2 p e1 e2
    ·rw[Jd.mp hd] at h2 e1
     exact wd a h1 (by omega) p e1 e2
  ·intro σ H2
   refine ae.go ?_
   rintro x2 x3 ws rfl s2 hw2 wl wz wc
   rw[J3] at wc
   exact⟨⟨_,aD.of (s2 _ _ hl),by rw[Ja];exact Jf _⟩,nx _ _ ⟨x2,x3,ws,rfl,s2,hw2,by omega,wz,wc⟩⟩
 intro σ H2
 refine ae.go ?_
 rintro x2 x3 ws rfl s2 hw2 wl wz wc
 refine fun d H3 n3=>⟨by show 2<=sizeLine;decide,fun t H4 n4=>⟨by show 0<=sizeLine;decide,fun e0 H5 n5=>⟨n5.same _ _ (n4.same _ _ n3.at),pk eP,t,rfl,n5.same _ _ n4.at,fun H6 c6=>gn ?_⟩⟩⟩
 have rA:=n5.same _ _ (n4.same _ _ n3.at)
 have JG:=(n3.same.trans n4.same).trans n5.same
 have dw:d≠wp:=fun z=>by have:=n3.nn;rw[z,hw2] at this;cases this
 have kF:H d=none:=by
  cases e:H d with
  | none=>rfl
  | some o=>have:=n3.nn;rw[s2 _ _ e] at this;cases this
 have ew:e0≠wp:=fun z=>by have:=n5.nn;rw[z,n4.same _ _ (n3.same _ _ hw2)] at this;cases this
 have ed:e0≠d:=fun z=>by have:=n5.nn;rw[z,n4.same _ _ n3.at] at this;cases this
 have s6:au H H6:=fun b o e=>by rw[c6.ne (ai e kF)];exact JG _ _ (s2 b o e)
 have me:H6 wp=some (.lst (refs ws)):=by rw[c6.ne (Ne.symm dw)];exact JG _ _ hw2
 have Ro:H6 e0=some (.lst []):=by rw[c6.ne ed];exact n5.at
 have NL:∀z∈ws,bV H6 z/\gj cs z.2/\Rc (cs.map sg) (iW z.2):=fun z hz=>⟨((wz z hz).1.same JG).chg c6 rA (fun _ z=>nomatch z),(wz z hz).2⟩
 dsimp only
 let J:Nat->L2.St->Hp->Prop:=fun m σ H'=>fq fun(x5:Option V) (us:List (Addr×(Str×Str))) (rs:List ((Str×Str)×Addr)) =>σ=[some (.ref l),some (.ref wp),x2,x3,some (.ref d),x5]/\au H H'/\H' wp=some (.lst (refs us))/\H' d=some (.dT (rs.map l9))/\us.length<=4000+16*rs.length/\(∀z∈us,bV H' z/\(z.2=eP∨gj cs z.2/\Rc (cs.map sg) (iW z.2)))/\(∀r∈rs,r.2≠wp/\r.2≠d/\gI cs H' r)/\(rs.map (·.1)).Nodup/\eP∈rs.map (·.1)/\(∀p∈rs.map (·.1),p=eP∨(gj cs p/\Rc (cs.map sg) (iW p)))/\(∀p∈ws.map (·.2),p∈us.map (·.2)∨p∈rs.map (·.1))/\(∀p∈rs.map (·.1),∀q∈iU cs p,q∈us.map (·.2)∨q∈rs.map (·.1))/\m=us.length+20*(40000-rs.length)
 have Nn:∀{rs:List ((Str×Str)×Addr)},(rs.map (·.1)).Nodup->(∀p∈rs.map (·.1),p=eP∨(gj cs p/\Rc (cs.map sg) (iW p)))->rs.length<=40000:=fun{rs} nd h=>by
  have:=Ju (bp (m:=zo cs) nd fun x hx=>gj.mem ((h x hx).imp id fun z=>z.1)) (yM g)
  rwa[Ja] at this
 refine cz (t:=gL _ _) (fun σ H'=>fq fun(x5:Option V) (us:List (Addr×(Str×Str))) (rs:List ((Str×Str)×Addr)) =>σ=[some (.ref l),some (.ref wp),x2,x3,some (.ref d),x5]/\au H H'/\H' d=some (.dT (rs.map l9))/\HM cs rs/\∀r∈rs,gI cs H' r) (fun Nx nx =>?_) ?_
 ·refine ie J ⟨_,none,ws,[(eP,e0)],rfl,s6,me,?_,by omega,fun z hz=>⟨(NL z hz).1,.inr (NL z hz).2⟩,fun r hr =>?_,by simp,by simp,fun p hp =>?_,fun p hp =>.inl hp,fun p hp q hq =>?_,rfl⟩ ?_
  ·rw[c6.at];rfl
  ·rw[Jd.mp hr]
   exact⟨ew,ed,[],Ro,rfl,fun z h=>nomatch h⟩
  ·simp at hp;exact .inl hp
  ·simp at hp
   rw[hp] at hq
   exact absurd hq (by unfold iU;rw[if_pos (.inr rfl)];exact fun z=>nomatch z)
  intro m σ H7
  refine ae.go ?_
  rintro x5 us rs rfl s7 yX tG ul uz rz nd fn ok ini cl rfl
  have rl:=Nn nd ok
  have rh:∀z∈us,jo z.2.1/\jo z.2.2:=fun z hz=>by
   rcases(uz z hz).2 with e|⟨⟨h1,h2⟩,_⟩
   ·rw[e];exact⟨(fun ch hc=>nomatch hc),fun ch hc=>nomatch hc⟩
   ·exact⟨h1.bin g,h2.bin g⟩
  refine⟨_,rfl,by show 0<=sizeLine;decide,fun p8 H8 n8 =>.inr ⟨_,_,Den.list (aD.of (n8.same _ _ yX)) (ya fun z hz=>(uz z hz).1.same n8.same),Den.list (aD.of n8.at) (by unfold aO;rfl),Mu rh,iH,_,rfl,?_⟩⟩
  rw[kG]
  rw[List.isEmpty_map]
  have s8:=s7.trans n8.same
  have vX:=n8.same _ _ yX
  have IH:=n8.same _ _ tG
  by_cases hv:us=[]
  ·have e:(!us.isEmpty)=false:=by rw[hv];rfl
   rw[e]
   refine bA (nx _ _ ⟨x5,us,rs,rfl,s8,IH,⟨nd,rl,fn,ok,fun d' hd' a h1 h2 p e1 e2=>(ini p (wc d' hd' a h1 h2 p e1 e2)).resolve_left ?_,fun p hp q hq=>(cl p hp q hq).resolve_left ?_⟩,fun r hr=>(rz r hr).2.2.same n8.same⟩)
   ·rw[hv];exact fun z=>nomatch z
   ·rw[hv];exact fun z=>nomatch z
  obtain⟨us',⟨a,p⟩,rfl⟩:∃us' x,us=us'++[x]:=⟨_,_,(Yt hv).symm⟩
  have e:(!(us'++[(a,p)]).isEmpty)=true:=by cases us'<;>rfl
  rw[e]
  obtain⟨y6,Co⟩:=uz (a,p) (Jj _ (Jd.mpr rfl))
  have y6:=y6.same n8.same
  rw[Je] at ul
  have ul:us'.length+1<=4000+16*rs.length:=ul
  refine cj ⟨fun σ' H'=>∃m',m'<(us'++[(a,p)]).length+20*(40000-rs.length)/\J m' σ' H',fun _ _ h=>h,?_⟩
  have xm:H8 wp=some (.lst (refs us'++[.ref a])):=by rw[vX];unfold refs;rw[Jh];rfl
  refine⟨_,rfl,.inl ⟨rfl,_,aD.of xm⟩,wp,_,.ref a,rfl,rfl,xm,?_,fun H9 c9=>gn ?_⟩
  ·rw[Je,Ud (by show _<=_+1-1;omega)]
   show[V.ref a][(refs us').length+1-1-(refs us').length]? = _
   rw[show(refs us').length+1-1-(refs us').length=0 by omega];rfl
  have KZ:H9 wp=some (.lst (refs us')):=by rw[c9.at];exact congrArg (fun l=>some (HO.lst l)) List.dropLast_concat
  have Ee:H9 d=some (.dT (rs.map l9)):=by rw[c9.ne dw];exact IH
  have s9:au H H9:=fun b o e=>by rw[c9.ne (ai e y9)];exact s8 b o e
  have oQ:bV H9 (a,p):=y6.chg c9 xm (fun _ z=>nomatch z)
  have ON:∀z∈us',bV H9 z/\(z.2=eP∨gj cs z.2/\Rc (cs.map sg) (iW z.2)):=fun z hz=>by
   obtain⟨h1,h2⟩:=uz z (Jx _ hz)
   exact⟨(h1.same n8.same).chg c9 xm (fun _ z=>nomatch z),h2⟩
  have Nw:∀r∈rs,r.2≠wp/\r.2≠d/\gI cs H9 r:=fun r hr=>by
   obtain⟨h1,h2,h3⟩:=rz r hr
   exact⟨h1,h2,(h3.same n8.same).chg c9 xm (fun _ z=>nomatch z) h1⟩
  dsimp only
  refine⟨_,rfl,_,rfl,d,_,rfl,cK.t (k:=pk p) Ee oQ,_,rfl,?_⟩
  by_cases fR:p∈rs.map (·.1)
  ·rw[xn.mpr fR]
   refine bA ⟨us'.length+20*(40000-rs.length),by rw[Je];show _<_+1+_;omega,_,us',rs,rfl,s9,KZ,Ee,by omega,ON,Nw,nd,fn,ok,fun p' hp' =>?_,fun p' hp' q' hq' =>?_,rfl⟩
   ·rcases ini p' hp' with h|h
    ·rw[Jh] at h
     rcases Ji.mp h with h|h
     ·exact .inl h
     ·rw[Jd.mp h];exact .inr fR
    ·exact .inr h
   ·rcases cl p' hp' q' hq' with h|h
    ·rw[Jh] at h
     rcases Ji.mp h with h|h
     ·exact .inl h
     ·rw[Jd.mp h];exact .inr fR
    ·exact .inr h
  have eN:(av (rs.map l9) (pk p)).isSome=false:=by
   cases hs:(av (rs.map l9) (pk p)).isSome with
   | false=>rfl
   | true=>exact absurd (xn.mp hs) fR
  have Og:av (rs.map l9) (pk p)=none:=by
   cases hs:av (rs.map l9) (pk p) with
   | none=>rfl
   | some v=>rw[hs] at eN;cases eN
  rw[eN]
  have Co:gj cs p/\Rc (cs.map sg) (iW p):=Co.resolve_left fun z=>fR (by rw[show p=eP from z];exact fn)
  have l1:=Co.1.1.len g
  have l2:=Co.1.2.len g
  have v8:((rs++[(p,wp)]).map (·.1)).Nodup:=by
   rw[Jh]
   exact List.nodup_append.mpr ⟨nd,by simp,fun x hx y hy e=>fR (by have z:y=p:=Jd.mp hy;rw[<-z,<-e];exact hx)⟩
  have Lu:∀x∈(rs++[(p,wp)]).map (·.1),x=eP∨(gj cs x/\Rc (cs.map sg) (iW x)):=fun x hx=>by
   rw[Jh] at hx
   rcases Ji.mp hx with h|h
   ·exact ok x h
   ·rw[Jd.mp h];exact .inr Co
  have RI:rs.length+1<=40000:=by
   have:=Nn v8 Lu
   rwa[Je] at this
  refine cj ⟨_,rfl,_,rfl,l,a,cs,p,rfl,s9 _ _ hl,oQ,hle,l1.1,l1.2,l2.1,l2.2,fun zs r H10 s10 hrn hr10 ez hz =>?_⟩
  have vO:=s10 _ _ Ee
  have Cp:=s10 _ _ KZ
  have oU:r≠wp:=fun z=>by rw[z,KZ] at hrn;cases hrn
  have rd:r≠d:=fun z=>by rw[z,Ee] at hrn;cases hrn
  refine⟨_,rfl,_,rfl,d,_,rfl,gq.t (k:=pk p) vO (s10 _ _ oQ) (big (by rw[Ja];omega)),?_⟩
  rw[cP _ Og]
  obtain⟨qb,c11⟩:∃qb,jT H10 d (.dT ((rs++[(p,r)]).map l9)) qb:=⟨_,⟨rfl⟩⟩
  have ep:rs.map l9++[(pk p,V.ref r)]=(rs++[(p,r)]).map l9:=by rw[Jh];rfl
  rw[ep,<-c11.eq]
  have vE:qb wp=some (.lst (refs us')):=by rw[c11.ne (Ne.symm dw)];exact Cp
  have yD:qb r=some (.lst (refs zs)):=by rw[c11.ne rd];exact hr10
  have pF:bV qb (a,p):=(oQ.same s10).chg c11 vO (fun _ z=>nomatch z)
  have val:av ((rs++[(p,r)]).map l9) (pk p)=some (.ref r):=by rw[<-ep,<-cP (V.ref r) Og,cN,if_pos rfl]
  have zl:zs.length<=16:=by
   have:=congrArg J9 ez
   rw[Ja] at this
   rw[this];exact ou hle p
  refine⟨_,rfl,.inl ⟨rfl,_,aD.of vE⟩,?_⟩
  refine⟨_,rfl,_,rfl,d,.ref r,rfl,?_,?_⟩
  ·have:=cK.t (k:=pk p) c11.at pF
   rw[val] at this
   exact this
  refine⟨wp,r,_,_,rfl,rfl,vE,yD,by rw[Ja,Ja];exact sizeOk (by omega),fun H12 c12=>⟨(us'++zs).length+20*(40000-(rs++[(p,r)]).length),?_,_,us'++zs,rs++[(p,r)],rfl,fun b o e =>?_,?_,?_,?_,fun z hz' =>?_,fun y hy =>?_,?_,?_,?_,fun p' hp' =>?_,fun p' hp' q' hq' =>?_,rfl⟩⟩
  ·rw[Je,Je,Je];show _+_+20*(40000-(rs.length+1))<_+1+_;omega
  ·rw[c12.ne (ai e y9),c11.ne (ai e kF)];exact s10 _ _ (s9 b o e)
  ·rw[c12.at];unfold refs;rw[Jh]
  ·rw[c12.ne dw];exact c11.at
  ·rw[Je,Je];show _+_<=4000+16*(rs.length+1);omega
  ·rcases Ji.mp hz' with hz'|hz'
   ·obtain⟨h1,h2⟩:=ON z hz'
    exact⟨((h1.same s10).chg c11 vO (fun _ z=>nomatch z)).chg c12 vE (fun _ z=>nomatch z),h2⟩
   ·refine⟨((hz z hz').chg c11 vO (fun _ z=>nomatch z)).chg c12 vE (fun _ z=>nomatch z),?_⟩
    have hq:z.2∈iU cs p:=by rw[<-ez];exact J8 hz'
    refine(Co.1.next g hq).imp id fun h=>⟨h,.step _ _ Co.2 ?_⟩
    rw[<-tQ];exact J8 hq
  ·rcases Ji.mp hy with hy|hy
   ·obtain⟨h1,h2,h3⟩:=Nw y hy
    exact⟨h1,h2,((h3.same s10).chg c11 vO (fun _ z=>nomatch z) h2).chg c12 vE (fun _ z=>nomatch z) h1⟩
   ·rw[Jd.mp hy]
    exact⟨oU,rd,zs,by rw[c12.ne oU];exact yD,ez,fun z hz'=>((hz z hz').chg c11 vO (fun _ z=>nomatch z)).chg c12 vE (fun _ z=>nomatch z)⟩
  ·rw[Jh] at v8 ⊢;exact v8
  ·rw[Jh];exact Jx _ fn
  ·rw[Jh] at Lu ⊢;exact Lu
  ·rw[Jh,Jh]
   rcases ini p' hp' with h|h
   ·rw[Jh] at h
    rcases Ji.mp h with h|h
    ·exact .inl (Jx _ h)
    ·exact .inr (Jj _ h)
   ·exact .inr (Jx _ h)
  ·rw[Jh] at hp' ⊢
   rw[Jh]
   rcases Ji.mp hp' with hp'|hp'
   ·rcases cl p' hp' q' hq' with h|h
    ·rw[Jh] at h
     rcases Ji.mp h with h|h
     ·exact .inl (Jx _ h)
     ·exact .inr (Jj _ h)
    ·exact .inr (Jx _ h)
   ·rw[Jd.mp hp',<-ez] at hq'
    exact .inl (Jj _ hq')
 intro σ H7
 refine ae.go ?_
 rintro x5 us rs rfl s7 tG pr hn
 exact⟨_,rfl,q d rs H7 s7 kF tG pr hn⟩
end
noncomputable def ov:Option Nat->V
 | none =>.non
 | some n =>.int (n:Nat)
def IV (cs:List Str)(H:Hp)(v:V):Prop:=∃a,v = .ref a/\((DN H a 0/\∃p,Rc (cs.map sg) p/\∀o,¬Wv (cs.map sg) p o)∨∃kvs,H a=some (.dT kvs)/\kvs≠[]/\(∀p,Rc (cs.map sg) p->∃o,Wv (cs.map sg) p o) /\
 ∀d∈cs,∀k,1<=k->k<(sg d).length->∀p:Str×Str,sg p.1=(sg d).drop k->p.2∈cs->∃o,av kvs (pk p)=some (ov o)/\Wv (cs.map sg) (iW p) o)
def sW (K:Jc):Sp:=fun vs H Q _=>bO fun(l:Addr) (cs:List Str)=>vs=[.ref l]/\H l=some (.lst (cs.map V.str))/\mY cs /\
 ∀(v:V) (H':Hp),au H H'->IV cs H' v->Q v H'
theorem K2 (x y:Str):PyData.eqv (.tuple [.str x,.str y]) (.tuple [.str (Str.ofString ""),.str (Str.ofString "")])=decide ((x,y)=eP):=by
 have e:((x,y)=eP)↔(x=Str.ofString "" /\ y=Str.ofString ""):=⟨fun h=>by injection h with h1 h2;exact⟨h1,h2⟩,fun⟨h1,h2⟩=>by rw[h1,h2]⟩
 have h:PyData.eqv (.tuple [.str x,.str y]) (.tuple [.str (Str.ofString ""),.str (Str.ofString "")])=(x==Str.ofString "" && y==Str.ofString ""):=by simp[PyData.eqv,PyData.eqvAll]
 rw[h,Bool.eq_iff_iff,Yh,decide_eq_true_iff,e]
 exact and_congr beq_iff_eq beq_iff_eq
theorem Fw {K:Jc}{H:Hp}{z:Addr×(Str×Str)}(h:bV H z):Den K H (.tuple [.str z.2.1,.str z.2.2]) (.ref z.1):=by
 have:=ya (K:=K) (ws:=[z]) (H:=H) fun y hy=>by rw[Jd.mp hy];exact h
 unfold refs at this
 rw[List.map_singleton,List.map_singleton] at this
 unfold aO at this
 refine ae.el (this) _ ?_
 rintro v r e h1 _
 cases e
 exact h1
theorem ND {x y:Str}(h1:jo x)(h2:jo y):SeqAt.shaped (.tuple [.str x,.str y])=true:=(Sh.tuple (n:=0) fun e he=>by
 simp at he
 rcases he with rfl|rfl
 ·exact Sh.str (dm fun ch hc=>by rcases h1 ch hc with e|e<;>omega)
 ·exact Sh.str (dm fun ch hc=>by rcases h2 ch hc with e|e<;>omega)).shaped (by decide)
structure tU (cs:List Str)(rs:List ((Str×Str)×Addr))(kvs:List (List Key×V)):Prop where
 nd:(kvs.map (·.1)).Nodup
 so:∀k v,av kvs k=some v->∃p o,k=pk p/\p∈rs.map (·.1)/\v=ov o/\Wv (cs.map sg) (iW p) o
theorem tU.le {cs:List Str}{rs:List ((Str×Str)×Addr)}{kvs:List (List Key×V)}(h:tU cs rs kvs)(pr:HM cs rs):kvs.length<=40000:=by
 have:=bp (m:=(rs.map (·.1)).map pk) h.nd fun k hk=>by
  cases hv:av kvs k with
  | none=>exact absurd hk (gQ hv)
  | some v=>
   obtain⟨p,o,rfl,hp,_⟩:=h.so k v hv
   exact J8 hp
 rw[Ja,Ja,Ja] at this
 exact Ju this pr.le
theorem tU.at {cs:List Str}{rs:List ((Str×Str)×Addr)}{kvs:List (List Key×V)}(h:tU cs rs kvs){p:Str×Str}(hp:(av kvs (pk p)).isSome=true):∃o,av kvs (pk p)=some (ov o)/\Wv (cs.map sg) (iW p) o:=by
 cases hv:av kvs (pk p) with
 | none=>rw[hv] at hp;cases hp
 | some v=>
  refine ae.el (h.so _ _ hv) _ ?_
  rintro p' o e _ rfl hw
  rw[<-lI e] at hw
  exact⟨o,rfl,hw⟩
theorem wW {cs:List Str}{rs:List ((Str×Str)×Addr)}(pr:HM cs rs){H:Hp}{d:Addr}{ob:Obj}(hd:H d=some (.frz ob (.dT (rs.map l9))))(hn:∀r∈rs,gI cs H r){b:Addr}{p:Str×Str}(hb:bV H (b,p))(hp:p∈rs.map (·.1)):
  ∃r zs,cK H d (.ref b) (some (.ref r))/\H r=some (.lst (refs zs))/\zs.map (·.2)=iU cs p/\∀z∈zs,bV H z:=by
 refine ae.el (J0.mp hp) _ ?_
 rintro r hr rfl
 obtain⟨zs,h1,h2,h3⟩:=hn r hr
 refine⟨r.2,zs,?_,h1,h2,h3⟩
 refine .inr ⟨_,pk r.1,b,.inr ⟨ob,hd⟩,rfl,hb,?_⟩
 have key:∀{rs:List ((Str×Str)×Addr)},(rs.map (·.1)).Nodup->r∈rs->av (rs.map l9) (pk r.1)=some (.ref r.2):=fun{rs} nd hm=>by
  induction rs with
  | nil=>cases hm
  | cons x rs ih=>
   rw[Uc,U2] at nd
   rcases J5.mp hm with e|hm
   ·subst e
    unfold av;simp[l9]
   ·have:x.1≠r.1:=fun e=>nd.1 (by rw[e];exact J8 hm)
    rw[Uc,<-ih nd.2 hm]
    unfold av
    rw[List.find?_cons_of_neg (by rw[decide_eq_true_iff];exact fun e=>this (lI e))]
 exact(key pr.nd hr).symm
noncomputable def tf (kvs:List (List Key×V))(q:Str×Str):Option Int:=match av kvs (pk q) with
 | some (.int n)=>some (n+1)
 | _=>none
theorem kc {kvs:List (List Key×V)}{q:Str×Str}(h:av kvs (pk q)=some (ov none)):tf kvs q=none:=by unfold tf;rw[h];rfl
theorem jf {kvs:List (List Key×V)}{q:Str×Str}{n:Nat}(h:av kvs (pk q)=some (ov (some n))):tf kvs q=some ((n:Int)+1):=by unfold tf;rw[h];rfl
noncomputable def Nl (s:Sg×Sg):Str×Str:=(⟨s.1.toArray⟩,⟨s.2.toArray⟩)
theorem Dq (q:Str×Str):Nl (iW q)=q:=by
 refine AW ?_
 show((sg q.1).toArray.toList,(sg q.2).toArray.toList)=_
 rw[Yo,Yo]
noncomputable def wf (kvs:List (List Key×V))(s:Sg×Sg):Option Nat:=(tf kvs (Nl s)).map fun i=>(i-1).toNat
theorem wC {kvs:List (List Key×V)}{q:Str×Str}{o:Option Nat}(h:av kvs (pk q)=some (ov o)):wf kvs (iW q)=o:=by
 unfold wf;rw[Dq]
 cases o with
 | none=>rw[kc h];rfl
 | some n=>
  rw[jf h]
  show some (((n:Int)+1-1).toNat)=some n
  congr 1;omega
theorem tU.put {cs:List Str}{rs:List ((Str×Str)×Addr)}{kvs:List (List Key×V)}(h:tU cs rs kvs){p:Str×Str}(hp:p∈rs.map (·.1))(n1:sg p.1≠[])(n2:sg p.2≠[])(all:∀q∈iU cs p,(av kvs (pk q)).isSome=true){o:Option Nat}
  (t:(o=none/\(iU cs p).filterMap (tf kvs)=[])∨∃m:Nat,o=some m/\(m:Int)∈(iU cs p).filterMap (tf kvs)/\∀a∈(iU cs p).filterMap (tf kvs),a<=(m:Int)):Wv (cs.map sg) (iW p) o:=by
 have mem:∀a:Nat,(∃q∈nx (cs.map sg) (iW p),∃d,wf kvs q=some d/\a=d+1)↔(a:Int)∈(iU cs p).filterMap (tf kvs):=fun a=>by
  rw[<-tQ,List.mem_filterMap]
  refine⟨fun⟨q,hq,d,e,ea⟩=>?_,fun⟨q,hq,e⟩=>?_⟩
  ·refine ae.el (J0.mp hq) _ ?_
   rintro q DH rfl
   refine ae.el (h.at (all q DH)) _ ?_
   rintro o ho _
   rw[wC ho] at e
   subst e
   exact⟨q,DH,by rw[jf ho,ea];rfl⟩
  ·refine ae.el (h.at (all q hq)) _ ?_
   rintro o ho _
   cases o with
   | none=>rw[kc ho] at e;cases e
   | some n=>
    rw[jf ho] at e
    have e:=Option.some.inj e
    exact⟨iW q,J8 hq,n,wC ho,by omega⟩
 refine .step _ (wf kvs) o n1 n2 (fun q hq =>?_) ?_
 ·rw[<-tQ] at hq
  refine ae.el (J0.mp hq) _ ?_
  rintro q DH rfl
  refine ae.el (h.at (all q DH)) _ ?_
  rintro o ho hw
  rw[wC ho];exact hw
 ·rcases t with ⟨rfl,e⟩|⟨m,rfl,h1,h2⟩
  ·refine .inl ⟨rfl,fun a ha =>?_⟩
   have:=(mem a).mp ha
   rw[e] at this;cases this
  ·exact .inr ⟨m,rfl,(mem m).mpr h1,fun a ha=>by have:=h2 _ ((mem a).mp ha);omega⟩
theorem tU.more {cs:List Str}{rs:List ((Str×Str)×Addr)}{kvs:List (List Key×V)}(h:tU cs rs kvs){p:Str×Str}(hp:p∈rs.map (·.1))(hn:av kvs (pk p)=none){o:Option Nat}(hw:Wv (cs.map sg) (iW p) o):tU cs rs (kvs++[(pk p,ov o)]):=by
 refine⟨?_,fun k v e =>?_⟩
 ·rw[Jh]
  exact List.nodup_append.mpr ⟨h.nd,by simp,fun x hx y hy e=>gQ hn (by have z:y=pk p:=Jd.mp hy;rw[<-z,<-e];exact hx)⟩
 ·rw[<-cP (ov o) hn,cN] at e
  by_cases hk:k=pk p
  ·rw[if_pos hk] at e
   exact⟨p,o,hk,hp,(Option.some.inj e).symm,hw⟩
  ·rw[if_neg hk] at e;exact h.so k v e
section
variable {P:Program}{w:World}{K:Jc}{mg:Str->Option Value}{base:Heap}{f:Addr}{fd:FuncData}
theorem bo:aN ["_law_codes", "_law_pairs_here", "_law_worths_here", "_law_left_here", "_law_more", "_law_some", "_law_pair", "_law_told"] ["_law_codes"] (aB (top fX)):=⟨rfl,rfl,rfl,by decide +kernel,rfl,by decide +kernel,by decide +kernel⟩
theorem Dz (F:cY K "_law_worths" "_law_worths" (top fX) f fd)(T:Nm mg)(qf:Fn P w K mg base 2 "_law_pairs" ["_law_codes"] (sX K)):bI P w K mg base fY 3 f fd ["_law_codes"] (sW K):=by
 refine F.ok bo (fun vs H Q E h =>?_) (fun d9 A outer s H vs Q E hr h =>?_)
 ·obtain⟨l,cs,rfl,_⟩:=h
  rfl
 unfold sW at h
 refine ae.el h _ ?_
 clear h
 rintro l cs rfl hl g q
 have hu:=gA hr
 have eZ:=hr.units
 have hle:=g.le
 have small:∀{n:Nat},n<=1000->n<sizeLine:=fun h=>Ue h (by decide)
 have big:∀{n:Nat},n<=5000000->n<sizeLine:=fun h=>Ue h (by decide)
 have bE:jo (Str.ofString ""):=fun ch hc=>nomatch hc
 refine⟨_,(ah (aL (i:=1) bo.nd rfl (Or.inr rfl) (bb (qf.mono (by decide)) hr rfl (aa (pv 0) ag)))
  (ah (aL (i:=2) bo.nd rfl (Or.inr rfl) (o7 hu (fA (aa bf (aa bf ag))) aw))
  (ah (bz (i:=3) bo.nd rfl (Or.inl rfl) rfl (aK (Nc:=["_law_pair"]) (Fc:=[]) (js:=[])) (yH (pv 1)) (aA (i:=0) (n:=1) (by decide)) (fun _ _ _ _ _=>(ak (i:=0) (dN ["_law_pair"]) rfl (Or.inl rfl))) (fun _ _ _ _ _=>(dI (aI (oP K eZ) (pv 0) (fA (aa bf (aa bf ag))) (aH _)))) (fun _ _ _ _ _=>(pv 0)))
  (ah (aL (i:=4) bo.nd rfl (Or.inl rfl) ee)
  (ah (fJ PassesOwn.never (dc (pv 4)) (ah (bz (i:=5) bo.nd rfl (Or.inl rfl) rfl (aK (Nc:=["_law_pair"]) (Fc:=["_law_worths_here", "_law_pairs_here"]) (js:=[2,1])) (gr K (pv 3)) (aA (i:=0) (n:=1) (by decide)) (fun _ _ _ _ _=>(ak (i:=0) (dN ["_law_pair", "_law_worths_here", "_law_pairs_here"]) rfl (Or.inl rfl))) (fun _ _ _ _ _=>(dI (dc (aq (rD K rfl) rfl T.n_all (by rfl) (aa (bg rfl (aK (Nc:=["_law_one"]) (Fc:=["_law_worths_here"]) (js:=[1])) (gr K (bL hu (pv 2) (pv 0) (fun _ _=>rfl))) (aA (i:=0) (n:=1) (by decide)) (fun _ _ _ _ _=>(ak (i:=0) (dN ["_law_one", "_law_worths_here"]) rfl (Or.inl rfl))) (fun _ _ _ _ _=>aX) (fun _ _ _ _ _=>(oN (kh hu (pv 0) (pv 1))))) ag))))) (fun _ _ _ _ _=>(pv 0)))
  (ah (eY PassesOwn.never rfl (gr K (pv 5)) (ak (i:=6) bo.nd rfl (Or.inl rfl)) (ah (bz (i:=7) bo.nd rfl (Or.inl rfl) rfl (aK (Nc:=["_law_one"]) (Fc:=["_law_worths_here"]) (js:=[2])) (gr K (bL hu (pv 1) (pv 6) (fun _ _=>rfl))) (aA (i:=0) (n:=1) (by decide)) (fun _ _ _ _ _=>(ak (i:=0) (dN ["_law_one", "_law_worths_here"]) rfl (Or.inl rfl))) (fun _ _ _ _ _=>(dI (aI ig (bL hu (pv 1) (pv 0) (fun _ _=>rfl)) d7 (aH _)))) (fun _ _ _ _ _=>(bj fz (bL hu (pv 1) (pv 0) (fun _ _=>rfl)) aw)))
  (ao (fv hu (pv 2) (pv 6) (dP (aI (oP K eZ) (pv 7) (eS ag) (aH _)) (aq (B4 K rfl) rfl T.n_max (by rfl) (aa (pv 7) ag)) d7) rfl))))
  (ah (bz (i:=3) bo.nd rfl (Or.inl rfl) rfl (aK (Nc:=["_law_pair"]) (Fc:=["_law_worths_here"]) (js:=[2])) (gr K (pv 3)) (aA (i:=0) (n:=1) (by decide)) (fun _ _ _ _ _=>(ak (i:=0) (dN ["_law_pair", "_law_worths_here"]) rfl (Or.inl rfl))) (fun _ _ _ _ _=>(dI (jI (fI hu (pv 0) (pv 1))))) (fun _ _ _ _ _=>(pv 0)))
  (ao (aL (i:=4) bo.nd rfl (Or.inl rfl) (dk (oP K eZ) (pv 5) (eS ag) (aH _))))))))
  (ao (aM (dP (aI (oP K eZ) (pv 3) (eS ag) (aH _)) qg (pv 2))))))))),?_⟩
 refine⟨_,rfl,l,cs,rfl,hl,g,fun d rs H1 s1 kF BO pr hn1=>gn ?_⟩
 refine fun wd H2 n2=>⟨by show 2<=sizeLine;decide,fun t H3 n3=>⟨n3.same _ _ n2.at,pk eP,t,rfl,n3.at,fun H4 c4=>gn ?_⟩⟩
 have JZ:=n2.same.trans n3.same
 have wa:=n3.same _ _ n2.at
 have HN:H1 wd=none:=n2.nn
 have y9:H wd=none:=by
  cases e:H wd with
  | none=>rfl
  | some o=>rw[s1 _ _ e] at HN;cases HN
 have s4:au H1 H4:=fun b o e=>by rw[c4.ne (ai e HN)];exact JZ b o e
 have zc:=s4 _ _ BO
 have Gq:=c4.at
 have N0:∀r∈rs,gI cs H4 r:=fun r hr=>(hn1 r hr).same s4
 have dw:d≠wd:=ai BO HN
 dsimp only
 refine bW (te:=eO _ _ _ _ _ _) (fun v H'=>fq fun(p:Addr) (ob:Obj) (zs:List (Addr×(Str×Str)))=>v = .ref p/\(∀b o,b≠d->H4 b=some o->H' b=some o)/\H' d=some (.frz ob (.dT (rs.map l9)))/\H4 p=none/\H' p=some (.lst (refs zs))/\zs.map (·.2)=(rs.map (·.1)).filter (fun x => !decide (x=eP))/\∀z∈zs,bV H' z) (fun Qn qn =>?_) ?_
 ·refine⟨_,rfl,d,_,rfl,zc,fun ob =>?_⟩
  obtain⟨H5,c5⟩:∃H5,jT H4 d (.frz ob (.dT (rs.map l9))) H5:=⟨_,⟨rfl⟩⟩
  rw[<-c5.eq]
  refine aV (N:=rs.length) (fun i ys H'=>∃zs:List (Addr×(Str×Str)),ys=refs zs/\au H5 H'/\zs.map (·.2)=((rs.take i).map (·.1)).filter (fun x => !decide (x=eP))/\∀z∈zs,bV H' z) ⟨[],rfl,au.refl _,rfl,fun z h=>nomatch h⟩ ?_ ?_
  ·intro i ys H6 Ny hi hz_ ny
   refine ae.el hz_ _ ?_
   clear hz_
   rintro zs rfl s6 ez hz
   have zl:zs.length<=i:=by
    have:=congrArg J9 ez
    rw[Ja] at this
    rw[this]
    refine Ju (Yj _ _) ?_
    rw[Ja,J6];omega
   have rl:=pr.le
   refine⟨⟨s6 _ _ c5.at,by rw[Ja];exact hi⟩,big (by rw[Ja];omega),?_⟩
   rintro v H7 ⟨rfl,kv,b,hkv,rfl,hb⟩
   rw[Jl,Jg hi] at hkv
   cases hkv
   have aR:=pr.ok _ (J8 (Jn hi))
   have cD:=aG hi
   generalize rs[i]=r at hb aR cD
   obtain⟨⟨x,y⟩,ra⟩:=r
   have hb:bV H7 (b,(x,y)):=hb
   have bn:jo x/\jo y:=by
    rcases aR with e|⟨⟨h1,h2⟩,_⟩
    ·injection e with e1 e2
     exact⟨by rw[e1];exact bE,by rw[e2];exact bE⟩
    ·exact⟨h1.bin g,h2.bin g⟩
   refine gn ?_
   refine⟨_,rfl,by show 2<=sizeLine;decide,fun t8 H8 n8 =>.inr ⟨_,_,Fw (hb.same n8.same),Fw (z:=(t8,eP)) n8.at,ND bn.1 bn.2,ND bE bE,_,rfl,?_⟩⟩
   rw[K2]
   have Ik:((rs.take (i+1)).map (·.1)).filter (fun x => !decide (x=eP))=((rs.take i).map (·.1)).filter (fun x => !decide (x=eP))++(if (x,y)=eP then [] else [(x,y)]):=by
    rw[cD,Jh,List.filter_append]
    congr 1
    show List.filter _ [(x,y)]=_
    by_cases h:(x,y)=eP
    ·rw[if_pos h,h];rfl
    ·rw[if_neg h,U3,if_pos (by rw[decide_eq_false h];rfl),List.filter_nil]
   by_cases h:(x,y)=eP
   ·rw[decide_eq_true h]
    rw[if_pos h,Uo] at Ik
    exact bA (ny _ _ ⟨zs,rfl,s6.trans n8.same,by rw[Ik];exact ez,fun z hz'=>(hz z hz').same n8.same⟩)
   ·rw[decide_eq_false h]
    rw[if_neg h] at Ik
    refine cj ⟨_,rfl,ny _ _ ⟨zs++[(b,(x,y))],by unfold refs;rw[Jh];rfl,s6.trans n8.same,by rw[Ik,Jh,ez];rfl,fun z hz' =>?_⟩⟩
    rcases Ji.mp hz' with hz'|hz'
    ·exact(hz z hz').same n8.same
    ·rw[Jd.mp hz'];exact hb.same n8.same
  ·intro ys H6
   refine ae.go ?_
   rintro zs rfl s6 ez hz
   rw[J3] at ez
   refine⟨⟨s6 _ _ c5.at,by rw[Ja];exact Jf _⟩,fun p hp=>qn _ _ ⟨p,ob,zs,rfl,fun b o hb e =>?_,?_,?_,ar,ez,fun z hz'=>(hz z hz').same (aQ hp _)⟩⟩
   ·exact aQ hp _ _ _ (s6 _ _ (by rw[c5.ne hb];exact e))
   ·exact aQ hp _ _ _ (s6 _ _ c5.at)
   ·cases e:H4 p with
    | none=>rfl
    | some o=>
     by_cases hb:p=d
     ·rw[hb,s6 _ _ c5.at] at hp;cases hp
     ·rw[s6 _ _ (by rw[c5.ne hb];exact e)] at hp;cases hp
 intro v H5
 refine ae.go ?_
 rintro lp0 ob zs0 rfl k5 rA hl0 hlp5 ez0 hz0
 refine gn (gn ?_)
 have GS:H5 wd=some (.dT [(pk eP,.int 0)]):=k5 _ _ (Ne.symm dw) Gq
 have s5:∀b o,b≠d->H b=some o->H5 b=some o:=fun b o hb e=>k5 b o hb (s4 b o (s1 b o e))
 have Q0:au H H5:=fun b o e=>s5 b o (ai e kF) e
 have Qx:∀r∈rs,gI cs H5 r:=fun r hr=>by
  obtain⟨zs,h1,h2,h3⟩:=N0 r hr
  exact⟨zs,k5 _ _ (fun z=>by rw[z,zc] at h1;cases h1) h1,h2,fun z hz=>k5 _ _ (fun e=>by have:=h3 z hz;unfold bV at this;rw[e,zc] at this;cases this) (h3 z hz)⟩
 clear k5 hl0 N0 zc Gq s4 hn1 BO
 refine gn ?_
 rw[show(List.set _ _ _:L2.St)=[some (.ref l),some (.ref d),some (.ref wd),some (.ref lp0),some (.bl true),none,none,none] from rfl]
 have GB:∀{p:Str×Str},p∈rs.map (·.1)->p≠eP->gj cs p/\Rc (cs.map sg) (iW p)/\sg p.1≠[]/\sg p.2≠[]:=fun{p} hp ne=>by
  obtain⟨h1,h2⟩:=(pr.ok p hp).resolve_left ne
  have l1:=(h1.1.len g).1
  have l2:=(h1.2.len g).1
  have e1:p.1.length=(sg p.1).length:=str_len _
  have e2:p.2.length=(sg p.2).length:=str_len _
  exact⟨h1,h2,fun z=>by rw[z] at e1;simp at e1;omega,fun z=>by rw[z] at e2;simp at e2;omega⟩
 dsimp only
 let J:Nat->L2.St->Hp->Prop:=fun m σ H'=>lU fun(lp:Addr) (zs:List (Addr×(Str×Str))) (kvs:List (List Key×V)) (more:Bool)=>fq fun(x5 x6 x7:Option V) =>σ=[some (.ref l),some (.ref d),some (.ref wd),some (.ref lp),some (.bl more),x5,x6,x7]/\m=2*zs.length+(if more=true then 1 else 0)/\au H H'/\H' d=some (.frz ob (.dT (rs.map l9)))/\(∀r∈rs,gI cs H' r)/\H' lp=some (.lst (refs zs))/\(∀z∈zs,bV H' z)/\(zs.map (·.2)).Nodup/\(∀z∈zs,z.2∈rs.map (·.1)/\z.2≠eP/\av kvs (pk z.2)=none)/\H' wd=some (.dT kvs)/\tU cs rs kvs/\(∀p∈rs.map (·.1),p∈zs.map (·.2)∨(av kvs (pk p)).isSome=true)/\(more=false->∀z∈zs,∃q∈iU cs z.2,av kvs (pk q)=none)
 refine cz (t:=gL _ _) (fun σ H'=>fq fun(lp:Addr) (zs:List (Addr×(Str×Str))) (kvs:List (List Key×V))=>fq fun(x5 x6 x7:Option V) =>σ=[some (.ref l),some (.ref d),some (.ref wd),some (.ref lp),some (.bl false),x5,x6,x7]/\au H H'/\H' lp=some (.lst (refs zs))/\(∀z∈zs,bV H' z)/\(∀z∈zs,z.2∈rs.map (·.1)/\z.2≠eP)/\H' wd=some (.dT kvs)/\tU cs rs kvs/\(∀p∈rs.map (·.1),p∈zs.map (·.2)∨(av kvs (pk p)).isSome=true)/\∀z∈zs,∃q∈iU cs z.2,av kvs (pk q)=none) (fun Nx nx =>?_) ?_
 ·have v0:∀k v,av [(pk eP,V.int 0)] k=some v->k=pk eP/\v = .int 0:=fun k v e=>by
   by_cases h:k=pk eP
   ·subst h
    exact⟨rfl,by unfold av at e;simpa using e.symm⟩
   ·unfold av at e
    rw[List.find?_cons_of_neg (by rw[decide_eq_true_iff];exact fun z=>h z.symm)] at e
    cases e
  have GO:∀p,p∈zs0.map (·.2)↔p∈rs.map (·.1)/\p≠eP:=fun p=>by
   rw[ez0,Wg]
   refine and_congr Iff.rfl ⟨fun h z =>?_,fun h =>?_⟩
   ·rw[decide_eq_true z] at h;cases h
   ·rw[decide_eq_false h];rfl
  refine ie J ⟨_,lp0,zs0,[(pk eP,.int 0)],true,none,none,none,rfl,rfl,Q0,rA,Qx,hlp5,hz0,by rw[ez0];exact List.Nodup.sublist List.filter_sublist pr.nd,fun z hz =>?_,GS,⟨by simp,fun k v e =>?_⟩,fun p hp =>?_,(fun h=>nomatch h)⟩ ?_
  ·obtain⟨h1,h2⟩:=(GO _).mp (J8 hz)
   refine⟨h1,h2,?_⟩
   cases hv:av [(pk eP,V.int 0)] (pk z.2) with
   | none=>rfl
   | some v=>exact absurd (lI (v0 _ _ hv).1) h2
  ·obtain⟨rfl,rfl⟩:=v0 k v e
   exact⟨eP,some 0,rfl,pr.fin,rfl,.fin⟩
  ·by_cases h:p=eP
   ·rw[h];exact .inr (by unfold av;simp)
   ·exact .inl ((GO p).mpr ⟨hp,h⟩)
  intro m σ H6
  refine ae.go ?_
  rintro lp zs kvs more x5 x6 x7 rfl rfl s6 uG hn6 hlp6 hz6 znd zk me wo cov fixp
  have zl:zs.length<=40000:=by
   have:=bp (m:=rs.map (·.1)) znd fun p hp=>by
    refine ae.el (J0.mp hp) _ ?_
    rintro z hz rfl
    exact(zk z hz).1
   rw[Ja,Ja] at this
   exact Ju this pr.le
  cases more with
  | false=>exact⟨_,rfl,_,rfl,bA (nx _ _ ⟨lp,zs,kvs,x5,x6,x7,rfl,s6,hlp6,hz6,fun z hz=>⟨(zk z hz).1,(zk z hz).2.1⟩,me,wo,cov,fixp rfl⟩)⟩
  | true=>
   refine⟨_,rfl,_,rfl,cj ⟨fun σ' H'=>∃m',m'<2*zs.length+1/\J m' σ' H',fun _ _ h=>h,?_⟩⟩
   have eE:∀{ws:List (Addr×(Str×Str))} {i:Nat} (hi:i<ws.length),(refs ws)[i]? = some (.ref ws[i].1):=fun hi=>by unfold refs;rw[Jl,Jg hi];rfl
   obtain⟨Fz,hFz⟩:∃Fz:Addr×(Str×Str)->Bool,Fz=fun z=>(iU cs z.2).all fun q=>(av kvs (pk q)).isSome:=⟨_,rfl⟩
   refine bW (te:=eO _ _ _ _ _ _) (fun v H'=>∃sp,v = .ref sp/\au H6 H'/\H6 sp=none/\H' sp=some (.lst (refs (zs.filter Fz)))) (fun Qn qn =>?_) ?_
   ·refine⟨_,rfl,lp,rfl,⟨_,aD.of hlp6⟩,?_⟩
    refine aV (N:=zs.length) (fun i ys H'=>ys=refs ((zs.take i).filter Fz)/\au H6 H') ⟨rfl,au.refl _⟩ ?_ ?_
    ·rintro i ys H7 Ny hi ⟨rfl,s7⟩ ny
     refine⟨⟨_,_,aD.of (s7 _ _ hlp6),eE hi⟩,big ?_,?_⟩
     ·unfold refs
      rw[Ja]
      have h1:=Yj Fz (zs.take i)
      rw[J6] at h1
      omega
     rintro y H8 ⟨rfl,hy⟩
     have e:=hy _ (aD.of (s7 _ _ hlp6))
     rw[eE hi] at e;cases e
     have E9:=(hz6 _ (Jn hi)).same s7
     have NT:=(zk _ (Jn hi)).1
     have cD:=aG hi
     generalize zs[i]=z at E9 NT cD
     refine ae.el (wW pr (s7 _ _ uG) (fun r hr=>(hn6 r hr).same s7) (b:=z.1) (p:=z.2) E9 NT) _ ?_
     rintro r ns hg jP en tW
     have nl:ns.length<=16:=by
      have:=congrArg J9 en
      rw[Ja] at this
      rw[this];exact ou hle _
     refine gn ⟨_,rfl,_,rfl,d,.ref r,rfl,hg,r,rfl,⟨_,aD.of jP⟩,?_⟩
     refine aV (N:=ns.length) (fun j ys H'=>H'=H8/\ys=((ns.take j).map fun q=>(av kvs (pk q.2)).isSome).map V.bl) ⟨rfl,rfl⟩ ?_ ?_
     ·rintro j ys H9 Nz hj ⟨rfl,rfl⟩ nz
      refine⟨⟨_,_,aD.of jP,eE hj⟩,small (by rw[Ja,Ja,J6];omega),?_⟩
      rintro y H10 ⟨rfl,hy⟩
      have e:=hy _ (aD.of jP)
      rw[eE hj] at e;cases e
      refine gn ⟨_,rfl,_,rfl,wd,_,rfl,cK.t (k:=pk ns[j].2) (s7 _ _ me) (tW _ (Jn hj)),nz _ _ ⟨rfl,?_⟩⟩
      rw[aG hj,Jh,Jh];rfl
     ·rintro ys H9 ⟨rfl,rfl⟩
      refine⟨⟨_,aD.of jP,by rw[Ja];exact Jf _⟩,fun p9 oQ =>?_⟩
      rw[J3]
      obtain⟨H10,n10⟩:∃H10,dM H9 p9 (.lst ((ns.map fun q=>(av kvs (pk q.2)).isSome).map V.bl)) H10:=⟨_,oQ,rfl⟩
      rw[<-n10.eq]
      refine⟨p9,_,rfl,aD.of n10.at,_,rfl,?_⟩
      have eF:(ns.map fun q=>(av kvs (pk q.2)).isSome).all id=Fz z:=by
       rw[hFz]
       show _=(iU cs z.2).all _
       rw[<-en,List.all_map,List.all_map];rfl
      rw[eF]
      have ef:(zs.take (i+1)).filter Fz=(zs.take i).filter Fz++(if Fz z=true then [z] else []):=by
       rw[cD,List.filter_append]
       congr 1
       by_cases h:Fz z=true
       ·rw[if_pos h,U3,if_pos h,List.filter_nil]
       ·rw[if_neg h,U3,if_neg h,List.filter_nil]
      refine eX (fun c=>⟨_,rfl,ny _ _ ⟨?_,s7.trans n10.same⟩⟩) (fun c=>ny _ _ ⟨?_,s7.trans n10.same⟩)
      ·rw[ef,if_pos c];unfold refs;rw[Jh];rfl
      ·rw[ef,if_neg c,Uo]
    ·rintro ys H7 ⟨rfl,s7⟩
     rw[J3]
     refine⟨⟨_,aD.of (s7 _ _ hlp6),by unfold refs;rw[Ja];exact Jf _⟩,fun p hp=>qn _ _ ⟨p,rfl,s7.trans (aQ hp _),?_,ar⟩⟩
     cases e:H6 p with
     | none=>rfl
     | some o=>rw[s7 _ _ e] at hp;cases hp
   intro v H7
   refine ae.go ?_
   rintro sp rfl s67 hsp0 hsp7
   refine gn ?_
   obtain⟨ms,hms⟩:∃ms,ms=zs.filter Fz:=⟨_,rfl⟩
   rw[<-hms] at hsp7
   have AB:∀z∈ms,z∈zs/\Fz z=true:=fun z hz=>by rw[hms] at hz;exact Wg.mp hz
   have ml:ms.length<=zs.length:=by rw[hms];exact Yj _ _
   have P5:(ms.map (·.2)).Nodup:=by rw[hms];exact List.Nodup.sublist (List.Sublist.map _ List.filter_sublist) znd
   have s7:=s6.trans s67
   have tG:=s67 _ _ uG
   have yX:=s67 _ _ me
   have N2:∀r∈rs,gI cs H7 r:=fun r hr=>(hn6 r hr).same s67
   have Ib:∀z∈zs,bV H7 z:=fun z hz=>(hz6 z hz).same s67
   have JA:=s67 _ _ hlp6
   dsimp only
   refine cz (t:=nO _ _ _) (fun σ H'=>fq fun(x6 x7:Option V) (bH:List (List Key×V)) =>σ=[some (.ref l),some (.ref d),some (.ref wd),some (.ref lp),some (.bl true),some (.ref sp),x6,x7]/\(∀b o,b≠wd->H7 b=some o->H' b=some o)/\H' wd=some (.dT bH)/\tU cs rs bH/\(∀p,(av kvs (pk p)).isSome=true->(av bH (pk p)).isSome=true)/\(∀z∈ms,(av bH (pk z.2)).isSome=true)/\∀p,(av bH (pk p)).isSome=true->(av kvs (pk p)).isSome=true∨p∈ms.map (·.2)) (fun Nx2 nx2 =>?_) ?_
   ·refine⟨_,rfl,sp,rfl,⟨_,aD.of hsp7⟩,?_⟩
    refine fQ (N:=ms.length) (fun i σ H'=>fq fun(x6 x7:Option V) (bH:List (List Key×V)) =>σ=[some (.ref l),some (.ref d),some (.ref wd),some (.ref lp),some (.bl true),some (.ref sp),x6,x7]/\(∀b o,b≠wd->H7 b=some o->H' b=some o)/\H' wd=some (.dT bH)/\tU cs rs bH/\(∀p,(av kvs (pk p)).isSome=true->(av bH (pk p)).isSome=true)/\(∀z∈ms.take i,(av bH (pk z.2)).isSome=true)/\∀p,(av bH (pk p)).isSome=true->(av kvs (pk p)).isSome=true∨p∈(ms.take i).map (·.2)) ⟨_,_,kvs,rfl,(fun b o _ e=>e),yX,wo,(fun p h=>h),(fun z h=>nomatch h),fun p h =>.inl h⟩ ?_ ?_
    ·intro i σ H8 hi
     refine ae.go ?_
     rintro x6 x7 bH rfl k8 vX wo8 m8 d8 b8
     have F0:sp≠wd:=fun z=>by rw[z,me] at hsp0;cases hsp0
     have FU:=k8 _ _ F0 hsp7
     refine⟨⟨_,_,aD.of FU,eE hi⟩,?_⟩
     rintro v H9 ⟨rfl,hv⟩
     have e:=hv _ (aD.of FU)
     rw[eE hi] at e;cases e
     refine gn ?_
     have pK:∀{y:Addr×(Str×Str)},bV H7 y->bV H9 y:=fun{y} h=>k8 _ _ (fun e=>by have h:=h;unfold bV at h;rw[e,yX] at h;cases h) h
     have O1:∀r∈rs,gI cs H9 r:=fun r hr=>by
      obtain⟨ys,h1,h2,h3⟩:=N2 r hr
      exact⟨ys,k8 _ _ (fun e=>by rw[e,yX] at h1;cases h1) h1,h2,fun y hy=>pK (h3 y hy)⟩
     have Ee:=k8 _ _ dw tG
     obtain⟨A1,hF⟩:=AB _ (Jn hi)
     have cD:=aG hi
     have rG:ms[i].2∉(ms.take i).map (·.2):=fun h=>by
      refine ae.el (J0.mp h) _ ?_
      rintro y hy e
      refine ae.el (Yb.mp hy) _ ?_
      rintro j hj e'
      rw[J6] at hj
      rw[List.getElem_take] at e'
      have h1:=U9.mp P5
      exact Yc.mp h1 j i (by rw[Ja];omega) (by rw[Ja];omega) (by omega) (by rw[List.getElem_map,List.getElem_map,e'];exact e)
     generalize ms[i]=z at A1 hF cD rG
     refine ae.el (zk z A1) _ ?_
     rintro zk1 zk2 zk3
     have NW:=pK (Ib z A1)
     refine ae.el (wW pr Ee O1 (b:=z.1) (p:=z.2) NW zk1) _ ?_
     rintro r ns hg jP en tW
     have nl:ns.length<=16:=by
      have:=congrArg J9 en
      rw[Ja] at this
      rw[this];exact ou hle _
     have eg:∀q∈iU cs z.2,(av bH (pk q)).isSome=true:=fun q hq=>by
      rw[hFz] at hF
      exact m8 q (Y3.mp hF q hq)
     have JP:av bH (pk z.2)=none:=by
      cases hv:av bH (pk z.2) with
      | none=>rfl
      | some v=>
       rcases b8 z.2 (by rw[hv];rfl) with h|h
       ·rw[zk3] at h;cases h
       ·exact absurd h rG
     obtain⟨L,hL⟩:∃L,L=(iU cs z.2).filterMap (tf bH):=⟨_,rfl⟩
     have Ll:L.length<=16:=by rw[hL];exact Ju (List.length_filterMap_le _ _) (ou hle _)
     have Ln:∀a∈L,∃n:Nat,a=((n+1:Nat):Int):=fun a ha=>by
      rw[hL] at ha
      refine ae.el (List.mem_filterMap.mp ha) _ ?_
      rintro q hq e
      refine ae.el (wo8.at (eg q hq)) _ ?_
      rintro o ho _
      cases o with
      | none=>rw[kc ho] at e;cases e
      | some n=>rw[jf ho] at e;exact⟨n,by have:=Option.some.inj e;omega⟩
     dsimp only
     refine bW (te:=eO _ _ _ _ _ _) (fun v H'=>∃tp,v = .ref tp/\dM H9 tp (.lst (L.map V.int)) H') (fun Qn qn =>?_) ?_
     ·refine⟨_,rfl,_,rfl,d,.ref r,rfl,hg,r,rfl,⟨_,aD.of jP⟩,?_⟩
      refine eR (N:=ns.length) (fun j ys H'=>H'=H9/\ys=(((ns.take j).map (·.2)).filterMap (tf bH)).map V.int) ⟨rfl,rfl⟩ ?_ ?_
      ·rintro j ys H10 Ny hj ⟨rfl,rfl⟩ ny
       refine⟨⟨_,_,aD.of jP,eE hj⟩,small ?_,?_⟩
       ·rw[Ja]
        have h1:=List.length_filterMap_le (tf bH) ((ns.take j).map (·.2))
        rw[Ja,J6] at h1
        omega
       rintro y qb ⟨rfl,hy⟩
       have e:=hy _ (aD.of jP)
       rw[eE hj] at e;cases e
       have hq:=tW _ (Jn hj)
       have DH:ns[j].2∈iU cs z.2:=by rw[<-en];exact J8 (Jn hj)
       have Fq:=aG hj
       generalize ns[j]=y at hq DH Fq
       refine ae.el (wo8.at (eg _ DH)) _ ?_
       rintro o ho _
       have jz:=cK.t (k:=pk y.2) vX hq
       rw[ho] at jz
       have step:∀x,(((ns.take (j+1)).map (·.2)).filterMap (tf bH))=((ns.take j).map (·.2)).filterMap (tf bH)++x↔[y.2].filterMap (tf bH)=x:=fun x=>by
        rw[Fq,Jh,List.filterMap_append]
        exact⟨fun h=>U0 h,fun h=>by rw[<-h];rfl⟩
       cases o with
       | none=>
        refine gn ⟨_,rfl,_,rfl,wd,_,rfl,jz,.inl ⟨rfl,_,rfl,bA (ny _ _ ⟨rfl,?_⟩)⟩⟩
        rw[(step []).mpr (by rw[List.filterMap_cons_none (kc ho),List.filterMap_nil]),Uo]
       | some n=>
        refine gn ⟨_,rfl,_,rfl,wd,_,rfl,jz,.inl ⟨rfl,_,rfl,cj ⟨_,rfl,_,rfl,wd,_,rfl,jz,.inl ⟨_,_,rfl,rfl,ny _ _ ⟨rfl,?_⟩⟩⟩⟩⟩
        rw[(step [(n:Int)+1]).mpr (by rw[List.filterMap_cons_some (jf ho),List.filterMap_nil]),Jh];rfl
      ·rintro ys H10 ⟨rfl,rfl⟩
       rw[J3,en,<-hL]
       exact⟨⟨_,aD.of jP,by unfold refs;rw[Ja];exact Jf _⟩,fun tp qb n11=>qn _ _ ⟨tp,rfl,n11⟩⟩
     intro v H10
     refine ae.go ?_
     rintro tp rfl n10
     refine gn ?_
     have fin:∀{o:Option Nat} {qb:Hp},au H10 qb->((o=none/\L=[])∨∃m:Nat,o=some m/\(m:Int)∈L/\∀a∈L,a<=(m:Int))->∃H12,gq qb wd (.ref z.1) (ov o) H12/\(∀b o,b≠wd->H7 b=some o->H12 b=some o)/\H12 wd=some (.dT (bH++[(pk z.2,ov o)]))/\tU cs rs (bH++[(pk z.2,ov o)])/\(∀p,(av kvs (pk p)).isSome=true->(av (bH++[(pk z.2,ov o)]) (pk p)).isSome=true)/\(∀y∈ms.take (i+1),(av (bH++[(pk z.2,ov o)]) (pk y.2)).isSome=true)/\∀p,(av (bH++[(pk z.2,ov o)]) (pk p)).isSome=true->(av kvs (pk p)).isSome=true∨p∈(ms.take (i+1)).map (·.2):=fun{o qb} s11 ht=>by
      rw[hL] at ht
      refine ae.el (GB zk1 zk2) _ ?_
      rintro _ _ e1 e2
      have hw:=wo8.put zk1 e1 e2 eg ht
      have hs:=n10.same.trans s11
      have val:∀p,av (bH++[(pk z.2,ov o)]) (pk p)=if pk p=pk z.2 then some (ov o) else av bH (pk p):=fun p=>by rw[<-cP (ov o) JP,cN]
      refine⟨_,gq.t (k:=pk z.2) (hs _ _ vX) (hs _ _ NW) (big (Ju (wo8.le pr) (by decide))),?_⟩
      rw[cP _ JP]
      refine⟨fun b o' hb e=>by rw[aj hb];exact hs _ _ (k8 b o' hb e),ar,wo8.more zk1 JP hw,fun p hp =>?_,fun y hy =>?_,fun p hp =>?_⟩
      ·rw[val];split
       ·rfl
       ·exact m8 p hp
      ·rw[val];split
       ·rfl
       ·rename_i h
        rw[cD] at hy
        rcases Ji.mp hy with hy|hy
        ·exact d8 y hy
        ·exact absurd (by rw[Jd.mp hy]) h
      ·rw[val] at hp
       rw[cD,Jh]
       split at hp
       ·rename_i h
        exact .inr (Jj _ (Jd.mpr (lI h)))
       ·exact(b8 p hp).imp id fun h=>Jx _ h
     refine⟨_,rfl,by show 0<=sizeLine;decide,fun p11 qb n11 =>.inr ⟨_,_,Den.list (aD.of (n11.same _ _ n10.at)) (Den.ints L),Den.list (aD.of n11.at) (by unfold aO;rfl),(tN (n:=1) L).shaped (by decide),iH,_,rfl,?_⟩⟩
     rw[kG,List.isEmpty_map]
     by_cases hLe:L=[]
     ·have e:(!L.isEmpty)=false:=by rw[hLe];rfl
      rw[e]
      refine ae.el (fin (o:=none) n11.same (.inl ⟨rfl,hLe⟩)) _ ?_
      rintro H12 hput f1 f2 f3 f4 f5 f6
      exact bA ⟨_,rfl,_,rfl,wd,H12,rfl,hput,_,_,_,rfl,f1,f2,f3,f4,f5,f6⟩
     ·have e:(!L.isEmpty)=true:=by cases L with|nil=>exact absurd rfl hLe|cons _ _=>rfl
      rw[e]
      refine cj ⟨_,rfl,tp,L,rfl,aD.of (n11.same _ _ n10.at),hLe,fun M hM hmx =>?_⟩
      obtain⟨n,rfl⟩:=Ln M hM
      refine ae.el (fin (o:=some (n+1)) n11.same (.inr ⟨n+1,rfl,hM,hmx⟩)) _ ?_
      rintro H12 hput f1 f2 f3 f4 f5 f6
      exact⟨_,rfl,_,rfl,wd,H12,rfl,hput,_,_,_,rfl,f1,f2,f3,f4,f5,f6⟩
    ·intro σ H8
     refine ae.go ?_
     rintro x6 x7 bH rfl k8 vX wo8 m8 d8 b8
     rw[J3] at d8 b8
     have F0:sp≠wd:=fun z=>by rw[z,me] at hsp0;cases hsp0
     exact⟨⟨_,aD.of (k8 _ _ F0 hsp7),by unfold refs;rw[Ja];exact Jf _⟩,nx2 _ _ ⟨x6,x7,bH,rfl,k8,vX,wo8,m8,d8,b8⟩⟩
   intro σ H8
   refine ae.go ?_
   rintro x6 x7 bH rfl k8 vX wo8 m8 d8 b8
   have F0:sp≠wd:=fun z=>by rw[z,me] at hsp0;cases hsp0
   have PD:lp≠wd:=fun z=>by rw[z,me] at hlp6;cases hlp6
   have nN:=k8 _ _ PD JA
   have pK:∀{y:Addr×(Str×Str)},bV H7 y->bV H8 y:=fun{y} h=>k8 _ _ (fun e=>by have h:=h;unfold bV at h;rw[e,yX] at h;cases h) h
   have KD:∀z∈zs,bV H8 z:=fun z hz=>pK (Ib z hz)
   have s8:au H H8:=fun b o e=>k8 _ _ (ai e y9) (s7 b o e)
   have Rm:∀r∈rs,gI cs H8 r:=fun r hr=>by
    obtain⟨ys,h1,h2,h3⟩:=N2 r hr
    exact⟨ys,k8 _ _ (fun e=>by rw[e,yX] at h1;cases h1) h1,h2,fun y hy=>pK (h3 y hy)⟩
   obtain⟨G,hG⟩:∃G:Addr×(Str×Str)->Bool,G=fun z => !(av bH (pk z.2)).isSome:=⟨_,rfl⟩
   refine bW (te:=eO _ _ _ _ _ _) (fun v H'=>∃p,v = .ref p/\dM H8 p (.lst (refs (zs.filter G))) H') (fun Qn qn =>?_) ?_
   ·refine⟨_,rfl,lp,rfl,⟨_,aD.of nN⟩,?_⟩
    refine eR (N:=zs.length) (fun i ys H'=>H'=H8/\ys=refs ((zs.take i).filter G)) ⟨rfl,rfl⟩ ?_ ?_
    ·rintro i ys H9 Ny hi ⟨rfl,rfl⟩ ny
     refine⟨⟨_,_,aD.of nN,eE hi⟩,big ?_,?_⟩
     ·unfold refs
      rw[Ja]
      have h1:=Yj G (zs.take i)
      rw[J6] at h1
      omega
     rintro y H10 ⟨rfl,hy⟩
     have e:=hy _ (aD.of nN)
     rw[eE hi] at e;cases e
     have E9:=KD _ (Jn hi)
     have cD:=aG hi
     generalize zs[i]=z at E9 cD
     refine gn ⟨_,rfl,_,rfl,wd,_,rfl,cK.t (k:=pk z.2) vX E9,_,rfl,?_⟩
     have eG:(!(av bH (pk z.2)).isSome)=G z:=by rw[hG]
     rw[eG]
     have ef:(zs.take (i+1)).filter G=(zs.take i).filter G++(if G z=true then [z] else []):=by
      rw[cD,List.filter_append]
      congr 1
      by_cases h:G z=true
      ·rw[if_pos h,U3,if_pos h,List.filter_nil]
      ·rw[if_neg h,U3,if_neg h,List.filter_nil]
     refine eX (fun c=>⟨_,rfl,ny _ _ ⟨rfl,?_⟩⟩) (fun c=>ny _ _ ⟨rfl,?_⟩)
     ·rw[ef,if_pos c];unfold refs;rw[Jh];rfl
     ·rw[ef,if_neg c,Uo]
    ·rintro ys H9 ⟨rfl,rfl⟩
     rw[J3]
     exact⟨⟨_,aD.of nN,by unfold refs;rw[Ja];exact Jf _⟩,fun p H10 n10=>qn _ _ ⟨p,rfl,n10⟩⟩
   intro v H9
   refine ae.go ?_
   rintro lp' rfl n9
   refine gn ?_
   have zM:=n9.same _ _ (k8 _ _ F0 hsp7)
   have II:∀z∈ms,jo z.2.1/\jo z.2.2:=fun z hz=>by
    refine ae.el (zk z (AB z hz).1) _ ?_
    rintro h1 h2 _
    obtain⟨h3,_⟩:=GB h1 h2
    exact⟨h3.1.bin g,h3.2.bin g⟩
   have pI:∀z,z∈zs.filter G↔z∈zs/\av bH (pk z.2)=none:=fun z=>by
    rw[Wg,hG]
    refine and_congr Iff.rfl ?_
    show(!(av bH (pk z.2)).isSome)=true↔_
    cases av bH (pk z.2) with
    | none=>exact⟨fun _=>rfl,fun _=>rfl⟩
    | some v=>exact⟨(fun h=>nomatch h),fun h=>nomatch h⟩
   refine⟨_,rfl,by show 0<=sizeLine;decide,fun p10 H10 n10 =>.inr ⟨_,_,Den.list (aD.of (n10.same _ _ zM)) (ya fun z hz=>((KD z (AB z hz).1).same n9.same).same n10.same),Den.list (aD.of n10.at) (by unfold aO;rfl),Mu II,iH,?_⟩⟩
   rw[kG,List.isEmpty_map]
   have wt:=n9.same.trans n10.same
   have RG:=Yj G zs
   refine⟨2*(zs.filter G).length+(if (!ms.isEmpty)=true then 1 else 0),?_,lp',zs.filter G,bH, !ms.isEmpty,_,_,_,rfl,rfl,s8.trans wt,wt _ _ (k8 _ _ dw tG),fun r hr=>(Rm r hr).same wt,n10.same _ _ n9.at,fun z hz=>(KD z ((pI z).mp hz).1).same wt,List.Nodup.sublist (List.Sublist.map _ List.filter_sublist) znd,fun z hz =>?_,wt _ _ vX,wo8,fun p hp =>?_,fun hm z hz =>?_⟩
   ·cases hmm:ms with
    | nil=>simp;omega
    | cons y ys=>
     have hy:y∈ms:=by rw[hmm];exact Js
     have:(zs.filter G).length<zs.length:=by
      refine List.length_filter_lt_length_iff_exists.mpr ⟨y,(AB y hy).1,?_⟩
      rw[hG]
      show ¬(!(av bH (pk y.2)).isSome)=true
      rw[d8 y hy];decide
     show 2*_+1<_
     omega
   ·obtain⟨h1,h2⟩:=(pI z).mp hz
    exact⟨(zk z h1).1,(zk z h1).2.1,h2⟩
   ·rcases cov p hp with h|h
    ·refine ae.el (J0.mp h) _ ?_
     rintro z hz rfl
     cases hv:av bH (pk z.2) with
     | none=>exact .inl (J8 ((pI z).mpr ⟨hz,hv⟩))
     | some v=>exact .inr rfl
    ·exact .inr (m8 p h)
   ·have Ou:ms=[]:=by
     cases hmm:ms with
     | nil=>rfl
     | cons y ys=>rw[hmm] at hm;cases hm
    obtain⟨h1,h2⟩:=(pI z).mp hz
    have hF:¬Fz z=true:=fun h=>by
     have:z∈ms:=by rw[hms];exact Wg.mpr ⟨h1,h⟩
     rw[Ou] at this;cases this
    rw[hFz] at hF
    have hF:¬ ∀q∈iU cs z.2,(av kvs (pk q)).isSome=true:=fun h=>hF (Y3.mpr h)
    refine Classical.byContradiction fun sT=>hF fun q hq =>?_
    refine Classical.byContradiction fun hn'=>sT ⟨q,hq,?_⟩
    cases hv:av bH (pk q) with
    | none=>rfl
    | some v=>
     rcases b8 q (by rw[hv];rfl) with h|h
     ·exact absurd h hn'
     ·rw[Ou] at h;cases h
 intro σ H6
 refine ae.go ?_
 rintro lp zs kvs x5 x6 x7 rfl s6 hlp6 hz6 zk me wo cov fixp
 have rh:∀z∈zs,jo z.2.1/\jo z.2.2:=fun z hz=>by
  obtain⟨h1,h2⟩:=zk z hz
  obtain⟨h3,_⟩:=GB h1 h2
  exact⟨h3.1.bin g,h3.2.bin g⟩
 refine⟨_,rfl,by show 0<=sizeLine;decide,fun p7 H7 n7 =>.inr ⟨_,_,Den.list (aD.of (n7.same _ _ hlp6)) (ya fun z hz=>(hz6 z hz).same n7.same),Den.list (aD.of n7.at) (by unfold aO;rfl),Mu rh,iH,_,rfl,?_⟩⟩
 rw[kG,List.isEmpty_map]
 have s7:=s6.trans n7.same
 cases zs with
 | cons z zs'=>
  refine cj (fun e8 H8 n8=>q _ _ (s7.trans n8.same) ⟨e8,rfl,.inl ⟨.inl ⟨[],.inl n8.at,rfl⟩,?_⟩⟩)
  have ET:∀{sp:Sg×Sg} {o:Option Nat},Wv (cs.map sg) sp o->∀y∈z::zs',iW y.2=sp->False:=fun{sp o} h=>by
   induction h with
   | fin=>
    intro y hy e
    obtain⟨h1,h2⟩:=zk y hy
    refine ae.el (GB h1 h2) _ ?_
    rintro _ _ h3 _
    injection e with e1 _
    exact h3 e1
   | step p f v h1 h2 h t ih=>
    intro y hy e
    refine ae.el (fixp y hy) _ ?_
    rintro q' hq' hv
    have hk:=pr.cl _ (zk y hy).1 q' hq'
    have fR:=(cov q' hk).resolve_right (by rw[hv];exact fun z=>nomatch z)
    refine ae.el (J0.mp fR) _ ?_
    rintro y' Mv e'
    refine ih (iW q') ?_ y' Mv (by rw[e'])
    rw[<-e,<-tQ];exact J8 hq'
  obtain⟨h1,h2⟩:=zk z Js
  exact⟨iW z.2,(GB h1 h2).2.1,fun o h=>ET h z Js rfl⟩
 | nil=>
  have all:∀p∈rs.map (·.1),∃o,av kvs (pk p)=some (ov o)/\Wv (cs.map sg) (iW p) o:=fun p hp=>wo.at ((cov p hp).resolve_left fun z=>nomatch z)
  refine bA ⟨_,rfl,q _ _ s7 ⟨wd,rfl,.inr ⟨kvs,n7.same _ _ me,fun z =>?_,fun p hp =>?_,fun d' hd' k h1 h2 p e1 e2=>all p (pr.ini d' hd' k h1 h2 p e1 e2)⟩⟩⟩
  ·refine ae.el (all eP pr.fin) _ ?_
   rintro o ho _
   rw[z] at ho;cases ho
  ·refine Rc.worth (fun k d' c h1 h2 hd' hc =>?_) hp
   refine ae.el (J0.mp hd') _ ?_
   rintro d'' hd'' rfl
   refine ae.el (J0.mp hc) _ ?_
   rintro c' jO rfl
   refine ae.el (all (⟨((sg d'').drop k).toArray⟩,c') (pr.ini d'' hd'' k h1 h2 _ (by show((sg d'').drop k).toArray.toList=_;rw[Yo]) jO)) _ ?_
   rintro o _ hw
   refine⟨o,?_⟩
   have e:iW ((⟨((sg d'').drop k).toArray⟩:Str),c')=((sg d'').drop k,sg c'):=by
    show(((sg d'').drop k).toArray.toList,sg c')=_
    rw[Yo]
   rw[e] at hw
   exact hw
end
def kZ (K:Jc)(n:Nat):Sp:=fun vs H Q _=>fq fun(v1 v2:V) (d:PyData)=>vs=[v1,v2]/\Den K H d v1/\Den K H d v2/\d.depth<n/\d.weight<=1000000/\∀H',au H H'->Q (.bl true) H'
section
variable {P:Program}{w:World}{K:Jc}{mg:Str->Option Value}{base:Heap}{f:Addr}{fd:FuncData}
theorem qz:aN ["_law_found", "_law_due"] ["_law_found", "_law_due"] (aB (top iO)):=⟨rfl,rfl,rfl,by decide +kernel,rfl,by decide +kernel,by decide +kernel⟩
theorem Aa {n:Nat}(F:cY K "_law_same" "_law_same" (top iO) f fd)(T:Nm mg)(iM:Fn P w K mg base n "_law_same" ["_law_found", "_law_due"] (kZ K n)):bI P w K mg base fY (n+1) f fd ["_law_found", "_law_due"] (kZ K (n+1)):=by
 refine F.ok qz (fun vs H Q E h =>?_) (fun d9 A outer s H vs Q E hr h =>?_)
 ·obtain⟨v1,v2,d,rfl,_⟩:=h
  rfl
 unfold kZ at h
 refine ae.el h _ ?_
 clear h
 rintro v1 v2 d rfl d1 d2 hn hw q
 have eZ:=hr.units
 refine⟨_,(ah (cb (aI EK (pv 1) d7 (aH _)) (ao (aM (dk EK (pv 0) d7 (aH _)))) ba)
  (ah (cb (dc (aq (iR K) rfl T.n_isinstance (by rfl) (aa (pv 1) (aa (bJ rfl T.n_bool (by rfl) (v := .ty "bool") rfl) ag)))) (ao (aM (eU (aq (iR K) rfl T.n_isinstance (by rfl) (aa (pv 0) (aa (bJ rfl T.n_bool (by rfl) (v := .ty "bool") rfl) ag))) (gW (dk (vU K eZ) (pv 0) (pv 1) (aH _)))))) ba)
  (ah (cb (dc (aq (EC K) rfl T.n_isinstance (by rfl) (aa (pv 1) (aa (fA (aa (bJ rfl T.n_list (by rfl) (v := .ty "list") rfl) (aa (bJ rfl T.n_tuple (by rfl) (v := .ty "tuple") rfl) ag))) ag)))) (ah (cb (PW.pt (tV (aI (oP K eZ) (aq (iR K) rfl T.n_isinstance (by rfl) (aa (pv 0) (aa (bJ rfl T.n_list (by rfl) (v := .ty "list") rfl) ag))) (aq (iR K) rfl T.n_isinstance (by rfl) (aa (pv 1) (aa (bJ rfl T.n_list (by rfl) (v := .ty "list") rfl) ag))) (aH _)) (oK (aI (oP K eZ) (aq (iR K) rfl T.n_isinstance (by rfl) (aa (pv 0) (aa (bJ rfl T.n_tuple (by rfl) (v := .ty "tuple") rfl) ag))) (aq (iR K) rfl T.n_isinstance (by rfl) (aa (pv 1) (aa (bJ rfl T.n_tuple (by rfl) (v := .ty "tuple") rfl) ag))) (aH _))))) (ao (aM ee)) ba)
  (ao (aM (eU (dk (vU K eZ) (aq (dE K) rfl T.n_len (by rfl) (aa (pv 0) ag)) (aq (dE K) rfl T.n_len (by rfl) (aa (pv 1) ag)) (aH _)) (gW (aq (rD K rfl) rfl T.n_all (by rfl) (aa (bg rfl (aK (Nc:=["_law_one", "_law_other"]) (Fc:=[]) (js:=[])) (AF K rfl T.n_zip (aa (pv 0) (aa (pv 1) ag))) (fD (aP (aA (i:=0) (n:=2) (by decide)) (aP (aA (i:=1) (n:=2) (by decide)) dH aF bh) aF (br aF bh))) (fun _ _ _ _ _=>(tupK K 2 rfl (aJ (ak (i:=0) (dN ["_law_one", "_law_other"]) rfl (Or.inl rfl)) (aJ (ak (i:=1) (dN ["_law_one", "_law_other"]) rfl (Or.inl rfl)) cB)))) (fun _ _ _ _ _=>aX) (fun _ _ _ _ _=>(bb (iM.mono (by first|decide|exact Jf _|omega)) hr rfl (aa (pv 0) (aa (pv 1) ag))))) ag))))))) ba)
  (ah (cb (dc (aq (iR K) rfl T.n_isinstance (by rfl) (aa (pv 1) (aa (bJ rfl T.n_str (by rfl) (v := .ty "str") rfl) ag)))) (ao (aM (eU (aq (iR K) rfl T.n_isinstance (by rfl) (aa (pv 0) (aa (bJ rfl T.n_str (by rfl) (v := .ty "str") rfl) ag))) (gW (dk (vU K eZ) (pv 0) (pv 1) (aH _)))))) ba)
  (ao (aM (eU (aq (iR K) rfl T.n_isinstance (by rfl) (aa (pv 0) (aa (bJ rfl T.n_int (by rfl) (v := .ty "int") rfl) ag))) (eU (yq (aq (iR K) rfl T.n_isinstance (by rfl) (aa (pv 0) (aa (bJ rfl T.n_bool (by rfl) (v := .ty "bool") rfl) ag)))) (gW (dk (vU K eZ) (pv 0) (pv 1) (aH _))))))))))),?_⟩
 refine⟨_,rfl,.inl ⟨rfl,_,rfl,?_⟩⟩
 cases d with
 | none=>
  unfold Den at d1 d2
  subst d1 d2
  exact cj ⟨_,rfl,.inl ⟨rfl,q H (au.refl _)⟩⟩
 | bool b=>
  have Bi:=d1
  have BN:=d2
  unfold Den at Bi BN
  subst Bi BN
  refine bA ⟨_,rfl,.inl ⟨_, "bool",.bool b,true,rfl,d2,rfl,_,rfl,cj ?_⟩⟩
  refine⟨_,rfl,.inl ⟨_, "bool",.bool b,true,rfl,d1,rfl,_,rfl,cj ⟨_,rfl,_,rfl,.inl ⟨rfl,?_⟩⟩⟩⟩
  rw[decide_eq_true rfl]
  exact q H (au.refl _)
 | int i=>
  have Bi:=d1
  have BN:=d2
  unfold Den at Bi BN
  subst Bi BN
  refine bA ⟨_,rfl,.inl ⟨_, "bool",.int i,false,rfl,d2,rfl,_,rfl,bA ?_⟩⟩
  refine⟨_,rfl,by show 2<=sizeLine;decide,fun p H1 n1=>⟨_,p,["list", "tuple"],.int i,false,rfl,n1.at,d2,rfl,_,rfl,bA ?_⟩⟩
  refine⟨_,rfl,.inl ⟨_, "str",.int i,false,rfl,d2,rfl,_,rfl,bA ?_⟩⟩
  refine⟨_,rfl,.inl ⟨_, "int",.int i,true,rfl,d1,rfl,_,rfl,cj ⟨_,rfl,.inl ⟨_, "bool",.int i,false,rfl,d1,rfl,_,rfl,_,rfl,cj ⟨_,rfl,_,rfl,.inl ⟨rfl,?_⟩⟩⟩⟩⟩⟩
  rw[decide_eq_true rfl]
  exact q H1 n1.same
 | str x=>
  have Bi:=d1
  have BN:=d2
  unfold Den at Bi BN
  subst Bi BN
  refine bA ⟨_,rfl,.inl ⟨_, "bool",.str x,false,rfl,d2,rfl,_,rfl,bA ?_⟩⟩
  refine⟨_,rfl,by show 2<=sizeLine;decide,fun p H1 n1=>⟨_,p,["list", "tuple"],.str x,false,rfl,n1.at,d2,rfl,_,rfl,bA ?_⟩⟩
  refine⟨_,rfl,.inl ⟨_, "str",.str x,true,rfl,d2,rfl,_,rfl,cj ?_⟩⟩
  refine⟨_,rfl,.inl ⟨_, "str",.str x,true,rfl,d1,rfl,_,rfl,cj ⟨_,rfl,_,rfl,.inl ⟨rfl,?_⟩⟩⟩⟩
  rw[decide_eq_true rfl]
  exact q H1 n1.same
 | list ds=>
  have e1:=d1
  have e2:=d2
  unfold Den at e1 e2
  refine ae.el (e1) _ ?_
  rintro a1 vs1 rfl s1 ds1
  refine ae.el (e2) _ ?_
  rintro a2 vs2 rfl s2 ds2
  simp only[PyData.depth] at hn
  simp only[PyData.weight] at hw
  have O7:=iy ds
  refine bA ⟨_,rfl,.inl ⟨_, "bool",.list ds,false,rfl,d2,rfl,_,rfl,bA ?_⟩⟩
  refine⟨_,rfl,by show 2<=sizeLine;decide,fun p H1 n1=>⟨_,p,["list", "tuple"],.list ds,true,rfl,n1.at,d2.same n1.same,rfl,_,rfl,cj ?_⟩⟩
  have b1:=d1.same n1.same
  have b2:=d2.same n1.same
  refine⟨_,rfl,.inl ⟨_, "list",.list ds,true,rfl,b1,rfl,_,rfl,.inl ⟨_, "list",.list ds,true,rfl,b2,rfl,.inl ⟨rfl,_,rfl,bA ?_⟩⟩⟩⟩
  refine⟨_,rfl,.inl ⟨_, "tuple",.list ds,false,rfl,b1,rfl,_,rfl,.inl ⟨_, "tuple",.list ds,false,rfl,b2,rfl,.inl ⟨rfl,_,rfl,bA ?_⟩⟩⟩⟩
  refine⟨_,rfl,_,_,rfl,.inl ⟨vs1,n1.same.seq s1,rfl⟩,_,rfl,_,_,rfl,.inl ⟨vs2,n1.same.seq s2,rfl⟩,.inl ⟨rfl,_,rfl,?_⟩⟩
  rw[decide_eq_true (show V.int (vs1.length:Nat)=V.int (vs2.length:Nat) by rw[ds1.len,ds2.len])]
  refine cj ⟨_,rfl,_,rfl,false,false,a1,a2,rfl,⟨_,n1.same.seq s1⟩,⟨_,n1.same.seq s2⟩,?_⟩
  refine aV (N:=ds.length) (fun i ys H'=>au H1 H'/\ys=(Jp i true).map V.bl) ⟨au.refl _,rfl⟩ ?_ ?_
  ·rintro i ys H2 Nx hi ⟨sm,rfl⟩ nx
   have nj:=n1.same.trans sm
   refine ae.el (ds1.get (i:=i) (d:=ds[i]) (Jg hi)) _ ?_
   rintro x hx dx
   refine ae.el (ds2.get (i:=i) (d:=ds[i]) (Jg hi)) _ ?_
   rintro y hy dy
   have q1:mZ false K H2 a1 vs1:=nj.seq s1
   have q2:mZ false K H2 a2 vs2:=nj.seq s2
   refine⟨⟨_,_,_,_,q1,q2,hx,hy⟩,by rw[Ja,Uk];exact Jv (show i<10000000 by omega) (by decide),?_⟩
   rintro x' H3 ⟨T',rfl,hN⟩
   have n3:=hN _ _ _ _ q1 q2 hx hy
   refine⟨T',_,rfl,fw.of n3.at,rfl,_,_,rfl,_,_,rfl,rfl,?_⟩
   have Bf:=nj.trans n3.same
   refine⟨_,rfl,_,rfl,x,y,ds[i],rfl,dx.same Bf,dy.same Bf,?_,?_,fun H4 sm4=>nx _ _ ⟨sm.trans (n3.same.trans sm4),?_⟩⟩
   ·have:=kr (n:=n-1) (by omega) (Jn hi)
    omega
   ·exact jN hw (Jn hi)
   ·rw[Y7,Jh];rfl
  ·rintro ys H2 ⟨sm,rfl⟩
   have nj:=n1.same.trans sm
   have q1:mZ false K H2 a1 vs1:=nj.seq s1
   have q2:mZ false K H2 a2 vs2:=nj.seq s2
   refine⟨⟨_,_,q1,q2,.inl (by rw[ds1.len];exact Jf _)⟩,fun p2 nW =>?_⟩
   refine⟨p2,Jp ds.length true,rfl,aD.of ar,?_⟩
   rw[all_true]
   exact q _ (nj.trans (aQ nW _))
 | tuple ds=>
  have e1:=d1
  have e2:=d2
  unfold Den at e1 e2
  refine ae.el (e1) _ ?_
  rintro a1 vs1 rfl s1 ds1
  refine ae.el (e2) _ ?_
  rintro a2 vs2 rfl s2 ds2
  simp only[PyData.depth] at hn
  simp only[PyData.weight] at hw
  have O7:=iy ds
  refine bA ⟨_,rfl,.inl ⟨_, "bool",.tuple ds,false,rfl,d2,rfl,_,rfl,bA ?_⟩⟩
  refine⟨_,rfl,by show 2<=sizeLine;decide,fun p H1 n1=>⟨_,p,["list", "tuple"],.tuple ds,true,rfl,n1.at,d2.same n1.same,rfl,_,rfl,cj ?_⟩⟩
  have b1:=d1.same n1.same
  have b2:=d2.same n1.same
  refine⟨_,rfl,.inl ⟨_, "list",.tuple ds,false,rfl,b1,rfl,_,rfl,.inl ⟨_, "list",.tuple ds,false,rfl,b2,rfl,.inl ⟨rfl,_,rfl,bA ?_⟩⟩⟩⟩
  refine⟨_,rfl,.inl ⟨_, "tuple",.tuple ds,true,rfl,b1,rfl,_,rfl,.inl ⟨_, "tuple",.tuple ds,true,rfl,b2,rfl,.inl ⟨rfl,_,rfl,bA ?_⟩⟩⟩⟩
  refine⟨_,rfl,_,_,rfl,.inr ⟨vs1,n1.same.i7 s1,rfl⟩,_,rfl,_,_,rfl,.inr ⟨vs2,n1.same.i7 s2,rfl⟩,.inl ⟨rfl,_,rfl,?_⟩⟩
  rw[decide_eq_true (show V.int (vs1.length:Nat)=V.int (vs2.length:Nat) by rw[ds1.len,ds2.len])]
  refine cj ⟨_,rfl,_,rfl,true,true,a1,a2,rfl,⟨_,n1.same.i7 s1⟩,⟨_,n1.same.i7 s2⟩,?_⟩
  refine aV (N:=ds.length) (fun i ys H'=>au H1 H'/\ys=(Jp i true).map V.bl) ⟨au.refl _,rfl⟩ ?_ ?_
  ·rintro i ys H2 Nx hi ⟨sm,rfl⟩ nx
   have nj:=n1.same.trans sm
   refine ae.el (ds1.get (i:=i) (d:=ds[i]) (Jg hi)) _ ?_
   rintro x hx dx
   refine ae.el (ds2.get (i:=i) (d:=ds[i]) (Jg hi)) _ ?_
   rintro y hy dy
   have q1:mZ true K H2 a1 vs1:=nj.i7 s1
   have q2:mZ true K H2 a2 vs2:=nj.i7 s2
   refine⟨⟨_,_,_,_,q1,q2,hx,hy⟩,by rw[Ja,Uk];exact Jv (show i<10000000 by omega) (by decide),?_⟩
   rintro x' H3 ⟨T',rfl,hN⟩
   have n3:=hN _ _ _ _ q1 q2 hx hy
   refine⟨T',_,rfl,fw.of n3.at,rfl,_,_,rfl,_,_,rfl,rfl,?_⟩
   have Bf:=nj.trans n3.same
   refine⟨_,rfl,_,rfl,x,y,ds[i],rfl,dx.same Bf,dy.same Bf,?_,?_,fun H4 sm4=>nx _ _ ⟨sm.trans (n3.same.trans sm4),?_⟩⟩
   ·have:=kr (n:=n-1) (by omega) (Jn hi)
    omega
   ·exact jN hw (Jn hi)
   ·rw[Y7,Jh];rfl
  ·rintro ys H2 ⟨sm,rfl⟩
   have nj:=n1.same.trans sm
   have q1:mZ true K H2 a1 vs1:=nj.i7 s1
   have q2:mZ true K H2 a2 vs2:=nj.i7 s2
   refine⟨⟨_,_,q1,q2,.inl (by rw[ds1.len];exact Jf _)⟩,fun p2 nW =>?_⟩
   refine⟨p2,Jp ds.length true,rfl,aD.of ar,?_⟩
   rw[all_true]
   exact q _ (nj.trans (aQ nW _))
 | dict _=>unfold Den at d1;exact d1.elim
end
def nr (cs:List Sg)(f:Sg->Nat)(x:Sg)(a:Nat):Prop:=(x∈cs/\a=1)∨∃c∈cs,∃r,Lt c x r/\a=f r+1
inductive Rk (cs:List Sg):Sg->Nat->Prop
 | mk (x:Sg) (f:Sg->Nat) (n:Nat) (h:∀c∈cs,∀r,Lt c x r->Rk cs r (f r)) (t:qA (nr cs f x) n):Rk cs x n
theorem qA.one {S:Nat->Prop}{m n:Nat}(h:qA S m)(g:qA S n):m=n:=by
 have h1:m<=n:=h.1.elim (fun z=>by omega) (g.2 m)
 have h2:n<=m:=g.1.elim (fun z=>by omega) (h.2 n)
 omega
theorem qA.congr {S T:Nat->Prop}{m:Nat}(h:qA S m)(e:∀a,S a↔T a):qA T m:=⟨h.1.imp id (e m).mp,fun a ha=>h.2 a ((e a).mpr ha)⟩
theorem nr.congr {cs:List Sg}{f g:Sg->Nat}{x:Sg}(h:∀c∈cs,∀r,Lt c x r->f r=g r)(a:Nat):nr cs f x a↔nr cs g x a:=
 or_congr Iff.rfl ⟨fun⟨c,hc,r,hl,e⟩=>⟨c,hc,r,hl,by rw[<-h c hc r hl];exact e⟩,fun⟨c,hc,r,hl,e⟩=>⟨c,hc,r,hl,by rw[h c hc r hl];exact e⟩⟩
theorem Rk.one {cs:List Sg}{x:Sg}{m:Nat}(h:Rk cs x m):∀{n:Nat},Rk cs x n->m=n:=by
 induction h with
 | mk x f m h t ih=>
  intro n g
  cases g with
  | mk x g n k t'=>exact t.one (t'.congr (nr.congr fun c hc r hl=>(ih c hc r hl (k c hc r hl)).symm))
theorem Rk.lt {cs:List Sg}{x r:Sg}{m n:Nat}{c:Sg}(h:Rk cs x m)(g:Rk cs r n)(hc:c∈cs)(hl:Lt c x r):n<m:=by
 cases h with
 | mk x f m h t=>
  have:=t.2 (f r+1) (.inr ⟨c,hc,r,hl,rfl⟩)
  have e:=(h c hc r hl).one g
  omega
theorem BG {S:Nat->Prop}:∀(M:Nat),(∀a,S a->a<=M)->∃n,qA S n
 | 0,h=>⟨0,.inl rfl,h⟩
 | M+1,h=>by
  by_cases c:S (M+1)
  ·exact⟨M+1,.inr c,h⟩
  ·exact BG M fun a ha=>by
    have:=h a ha
    have:a≠M+1:=fun z=>c (z▸ha)
    omega
theorem Rk.ex {cs:List Sg}{x:Sg}(h:En cs x):∃n,Rk cs x n:=by
 induction h with
 | mk x h ih=>
  obtain⟨f,hf⟩:∃f:Sg->Nat,∀c∈cs,∀r,Lt c x r->Rk cs r (f r):=by
   refine⟨fun r=>open Classical in if hr:∃n,Rk cs r n then hr.choose else 0,fun c hc r hl =>?_⟩
   have hr:=ih c hc r hl
   dsimp only;rw[dif_pos hr];exact hr.choose_spec
  have bd:∀l:List Sg,∃M,∀c∈l,∀r,Lt c x r->f r+1<=M:=fun l=>by
   induction l with
   | nil=>exact⟨0,fun c hc=>nomatch hc⟩
   | cons c l ihl=>
    obtain⟨M,hM⟩:=ihl
    by_cases hr:∃r,Lt c x r
    ·obtain⟨r,hr⟩:=hr
     refine⟨M+(f r+1),fun c' jO r' iK =>?_⟩
     rcases J5.mp jO with e|jO
     ·rw[e] at iK
      rw[hr.one iK];omega
     ·have:=hM c' jO r' iK;omega
    ·refine⟨M,fun c' jO r' iK =>?_⟩
     rcases J5.mp jO with e|jO
     ·exact absurd ⟨r',e▸iK⟩ hr
     ·exact hM c' jO r' iK
  obtain⟨M,hM⟩:=bd cs
  obtain⟨n,hn⟩:=BG (S:=nr cs f x) (M+1) fun a ha=>by
   rcases ha with ⟨_,e⟩|⟨c,hc,r,hl,e⟩
   ·omega
   ·have:=hM c hc r hl;omega
  exact⟨n,.mk x f n hf hn⟩
noncomputable abbrev Rz:=Addr×Str×Nat
def pz (H:Hp)(z:Rz):Prop:=H z.1=some (.tup [.str z.2.1,.int (z.2.2:Nat)])
theorem pz.same {H H':Hp}{z:Rz}(h:pz H z)(s:au H H'):pz H' z:=s _ _ h
structure qW (B:List (Str×Str))(H:Hp)(p:Addr)(zs:List Rz):Prop where
 l:H p=some (.lst (zs.map fun z=>V.ref z.1))
 t:∀z∈zs,pz H z
 r:∀z∈zs,Rk (fg B) (sg z.2.1) z.2.2
 nd:(zs.map (·.2.1)).Nodup
 mem:∀r,r∈zs.map (·.2.1)↔cW B r
 pw:(zs.map (·.2.1)).Pairwise (fun a b =>¬ff b a)
 le:zs.length<=200
theorem qW.same {B:List (Str×Str)}{H H':Hp}{p:Addr}{zs:List Rz}(h:qW B H p zs)(s:au H H'):qW B H' p zs:=⟨s _ _ h.l,fun z hz=>(h.t z hz).same s,h.r,h.nd,h.mem,h.pw,h.le⟩
noncomputable def Bc (zs:List Rz):PyData := .list (zs.map fun z =>.tuple [.str z.2.1,.int (z.2.2:Nat)])
theorem rB {K:Jc}{H:Hp}:∀{zs:List Rz},(∀z∈zs,pz H z)->aO K H (zs.map fun z =>.tuple [.str z.2.1,.int (z.2.2:Nat)]) (zs.map fun z=>V.ref z.1)
 | [],_=>by unfold aO;rfl
 | z::zs,h=>by
  rw[Uc,Uc]
  unfold aO
  refine⟨_,_,rfl,?_,rB fun y hy=>h y (Jq _ hy)⟩
  unfold Den
  refine⟨z.1,_,rfl,fw.of (h z Js),?_⟩
  unfold aO
  refine⟨_,_,rfl,by unfold Den;rfl,?_⟩
  unfold aO
  refine⟨_,_,rfl,by unfold Den;rfl,?_⟩
  unfold aO;rfl
theorem qW.den {K:Jc}{B:List (Str×Str)}{H:Hp}{p:Addr}{zs:List Rz}(h:qW B H p zs):Den K H (Bc zs) (.ref p):=Den.list (aD.of h.l) (rB h.t)
def zD (K:Jc):Sp:=fun vs H Q _=>bO fun(l:Addr) (B:List (Str×Str))=>vs=[.ref l]/\vP K H B l/\dB B /\
 (∀H',au H H'->(∃r,cW B r/\¬En (fg B) (sg r))->Q .non H') /\
 ∀(p:Addr) (zs:List Rz) (H':Hp),au H H'->H p=none->qW B H' p zs->(∀r,cW B r->En (fg B) (sg r))->Q (.ref p) H'
structure yY (B:List (Str×Str))(us:List Str)(kvs:List (Key×V)):Prop where
 nd:(kvs.map (·.1)).Nodup
 ks:∀k∈kvs.map (·.1),∃x∈us,k = .inr x
 at':∀x∈us,∃n:Nat,Rk (fg B) (sg x) n/\av kvs (.inr x)=some (.int n)
theorem yY.no {B:List (Str×Str)}{us:List Str}{kvs:List (Key×V)}(h:yY B us kvs){x:Str}(hx:x∉us):av kvs (.inr x)=none:=by
 cases hv:av kvs (.inr x) with
 | none=>rfl
 | some v=>
  refine ae.el (h.ks _ (oB hv)) _ ?_
  rintro y hy e
  injection e with e
  exact absurd (by rw[show x=y from e];exact hy) hx
theorem yY.le {B:List (Str×Str)}{us:List Str}{kvs:List (Key×V)}(h:yY B us kvs):kvs.length<=us.length:=by
 have:=bp (m:=us.map Sum.inr) h.nd fun k hk=>by
  refine ae.el (h.ks k hk) _ ?_
  rintro x hx rfl
  exact J8 hx
 rwa[Ja,Ja] at this
theorem yY.more {B:List (Str×Str)}{us:List Str}{kvs:List (Key×V)}(h:yY B us kvs){x:Str}(hx:x∉us)(lt:∀q∈B,∀r,Bh q x r->r∈us){m:Nat}
  (mem:qA (fun a=>((∃q∈B,q.2=x)/\a=1)∨∃q∈B,∃r,∃n:Nat,Bh q x r/\av kvs (.inr r)=some (.int n)/\a=n+1) m):yY B (us++[x]) (kvs++[(.inr x,.int (m:Nat))]):=by
 have hv:=h.no hx
 have val:∀y,av (kvs++[(.inr x,V.int (m:Nat))]) (.inr y)=if (Sum.inr y:Key) = .inr x then some (.int (m:Nat)) else av kvs (.inr y):=fun y=>by rw[<-cP (V.int (m:Nat)) hv,cN]
 have key:Rk (fg B) (sg x) m:=by
  obtain⟨f,hf⟩:∃f:Sg->Nat,∀r∈us,Rk (fg B) (sg r) (f (sg r))/\av kvs (.inr r)=some (.int (f (sg r):Nat)):=by
   refine⟨fun s=>open Classical in if hs:∃n:Nat,Rk (fg B) s n/\av kvs (.inr (toS s))=some (.int n) then hs.choose else 0,fun r hr =>?_⟩
   have hs:∃n:Nat,Rk (fg B) (sg r) n/\av kvs (.inr (toS (sg r)))=some (.int n):=by rw[rL];exact h.at' r hr
   have ev:av kvs (.inr r)=av kvs (.inr (toS (sg r))):=by rw[rL]
   dsimp only
   rw[dif_pos hs]
   exact⟨hs.choose_spec.1,ev.trans hs.choose_spec.2⟩
  have bN:∀{c r:Sg},c∈fg B->Lt c (sg x) r->∃q∈B,sg q.2=c/\Bh q x (toS r)/\toS r∈us:=fun{c r} hc hl=>by
   refine ae.el (ck.mp hc) _ ?_
   rintro q hq rfl
   have hb:Bh q x (toS r):=gG.mpr (by rw[dF];exact hl)
   exact⟨q,hq,rfl,hb,lt q hq _ hb⟩
  refine .mk _ f _ (fun c hc r hl =>?_) (mem.congr fun a =>?_)
  ·refine ae.el (bN hc hl) _ ?_
   rintro q hq _ hb hr
   have:=(hf _ hr).1
   rw[dF] at this
   exact this
  ·refine or_congr (and_congr ⟨fun⟨q,hq,e⟩=>ck.mpr ⟨q,hq,by rw[e]⟩,fun h =>?_⟩ Iff.rfl) ⟨fun⟨q,hq,r,n,hb,hv,e⟩=>?_,fun⟨c,hc,r,hl,e⟩=>?_⟩
   ·refine ae.el (ck.mp h) _ ?_
    rintro q hq e
    exact⟨q,hq,df e⟩
   ·have h2:=(hf r (lt q hq r hb)).2
    rw[hv] at h2
    have h2:=Option.some.inj h2
    injection h2 with h2
    exact⟨sg q.2,ck.mpr ⟨q,hq,rfl⟩,sg r,gG.mp hb,by omega⟩
   ·refine ae.el (bN hc hl) _ ?_
    rintro q hq rfl hb hr
    have h2:=(hf _ hr).2
    rw[dF] at h2
    exact⟨q,hq,toS r,f r,hb,h2,e⟩
 refine⟨?_,fun k hk =>?_,fun y hy =>?_⟩
 ·rw[Jh]
  exact List.nodup_append.mpr ⟨h.nd,by simp,fun a ha b hb e=>gQ hv (by have z:b = .inr x:=Jd.mp hb;rw[<-z,<-e];exact ha)⟩
 ·rw[Jh] at hk
  rcases Ji.mp hk with hk|hk
  ·refine ae.el (h.ks k hk) _ ?_
   rintro y hy e
   exact⟨y,Jx _ hy,e⟩
  ·exact⟨x,Jj _ (Jd.mpr rfl),Jd.mp hk⟩
 ·rw[val]
  rcases Ji.mp hy with hy|hy
  ·rw[if_neg (fun e=>hx (by injection e with e;rw[<-show y=x from e];exact hy))]
   exact h.at' y hy
  ·rw[Jd.mp hy,if_pos rfl]
   exact⟨m,key,rfl⟩
section
variable {P:Program}{w:World}{K:Jc}{mg:Str->Option Value}{base:Heap}{f:Addr}{fd:FuncData}
theorem cH:aN ["book", "lags", "ending", "codes", "ranks", "lag", "counts"] ["book"] (aB (top iG)):=⟨rfl,rfl,rfl,by decide +kernel,rfl,by decide +kernel,by decide +kernel⟩
theorem EZ (F:cY K "ranks_of" "ranks_of" (top iG) f fd)(T:Nm mg)(jK:Fn P w K mg base 4 "lags_of" ["book"] (qp K))(l6:Fn P w K mg base 5 "ending_lags" ["book"] (AY K))(cR:Fn P w K mg base 2 "lags_behind" ["book", "lag"] (vp K)):bI P w K mg base fY 6 f fd ["book"] (zD K):=by
 refine F.ok cH (fun vs H Q E h =>?_) (fun d9 A outer s H vs Q E hr h =>?_)
 ·obtain⟨l,B,rfl,_⟩:=h
  rfl
 unfold zD at h
 refine ae.el h _ ?_
 clear h
 rintro l B rfl hB gB q0 q
 have hu:=gA hr
 have eZ:=hr.units
 have hle:=gB.le
 have small:∀{n:Nat},n<=10000->n<sizeLine:=fun h=>Ue h (by decide)
 refine⟨_,(ah (aL (i:=1) cH.nd rfl (Or.inl rfl) (bb (jK.mono (by decide)) hr rfl (aa (pv 0) ag)))
  (ah (aL (i:=2) cH.nd rfl (Or.inl rfl) (bb (l6.mono (by decide)) hr rfl (aa (pv 0) ag)))
  (ah (cb (aI (oP K eZ) (aq mM rfl T.n_len (by rfl) (aa (pv 2) ag)) (aq (dE K) rfl T.n_len (by rfl) (aa (pv 1) ag)) (aH _)) (ao (aM d7)) ba)
  (ah (qi (i:=3) cH.nd rfl (Or.inl rfl) rfl (aK (Nc:=["name", "code"]) (Fc:=[]) (js:=[])) (gr K (pv 0)) (fD (aP (aA (i:=0) (n:=2) (by decide)) (aP (aA (i:=1) (n:=2) (by decide)) dH aF bh) aF (br aF bh))) (fun _ _ _ _ _=>(tupK K 2 rfl (aJ (ak (i:=0) (dN ["name", "code"]) rfl (Or.inl rfl)) (aJ (ak (i:=1) (dN ["name", "code"]) rfl (Or.inl rfl)) cB)))) (fun _ _ _ _ _=>aX) (fun _ _ _ _ _=>(pv 1)) (fun _ _ _ _ _=>ee))
  (ah (aL (i:=4) cH.nd rfl (Or.inr rfl) qg)
  (ah (eY PassesOwn.never rfl (qe (pv 2)) (ak (i:=5) cH.nd rfl (Or.inl rfl)) (ah (bz (i:=6) cH.nd rfl (Or.inl rfl) rfl (aK (Nc:=["name", "code", "later"]) (Fc:=["ranks"]) (js:=[4])) (gr K (bb (cR.mono (by decide)) hr rfl (aa (pv 0) (aa (pv 5) ag)))) (fD (aP (aA (i:=0) (n:=3) (by decide)) (aP (aA (i:=1) (n:=3) (by decide)) (aP (aA (i:=2) (n:=3) (by decide)) dH aF bh) aF (br aF bh)) aF (br aF (br aF bh)))) (fun _ _ _ _ _=>(tupK K 3 rfl (aJ (ak (i:=0) (dN ["name", "code", "later", "ranks"]) rfl (Or.inl rfl)) (aJ (ak (i:=1) (dN ["name", "code", "later", "ranks"]) rfl (Or.inl rfl)) (aJ (ak (i:=2) (dN ["name", "code", "later", "ranks"]) rfl (Or.inl rfl)) cB))))) (fun _ _ _ _ _=>aX) (fun _ _ _ _ _=>(bj fz aw (bL hu (pv 3) (pv 2) (fun _ _=>rfl)))))
  (ao (fv hu (pv 4) (pv 5) (jt (maxD K rfl) rfl T.n_max (by rfl) (aa (pv 6) ag) (oG (dP (jI (kh hu (pv 5) (pv 3))) aw aw) rX)) rfl))))
  (ao (aM (bg rfl (aK (Nc:=["lag"]) (Fc:=["ranks"]) (js:=[4])) (gr K (pv 1)) (aA (i:=0) (n:=1) (by decide)) (fun _ _ _ _ _=>(ak (i:=0) (dN ["lag", "ranks"]) rfl (Or.inl rfl))) (fun _ _ _ _ _=>aX) (fun _ _ _ _ _=>(fA (aa (pv 0) (aa (bL hu (pv 1) (pv 0) (fun _ _=>rfl)) ag))))))))))))),?_⟩
 refine⟨_,rfl,l,B,rfl,hB,gB,fun ts p1 H1 s1 hp10 kb nd tl mem pw=>gn ?_⟩
 refine⟨_,rfl,l,B,rfl,hB.same s1,gB,fun d E H2 s2 hd0' hd2 ndE ordE eL ek=>gn ?_⟩
 have Ip:=s1.trans s2
 have kF:H d=none:=by
  cases e:H d with
  | none=>rfl
  | some o=>rw[s1 _ _ e] at hd0';cases hd0'
 have nW:=s2 _ _ kb
 dsimp only
 refine⟨_,rfl,d,_,rfl,hd2,_,rfl,_,_,rfl,.inl ⟨_,aD.of nW,rfl⟩,.inl ⟨rfl,_,rfl,?_⟩⟩
 rw[Ja,Ja]
 have sub:∀r∈E,r∈ts:=fun r hr=>(mem r).mpr (eL r hr)
 have HX:(∀r∈ts,r∈E)↔E.length=ts.length:=by
  refine⟨fun h =>?_,fun h r hr=>Classical.byContradiction fun hn =>?_⟩
  ·have:=bp nd h;have:=bp ndE sub;omega
  ·have:=bp (l:=r::E) (m:=ts) (U2.mpr ⟨hn,ndE⟩) fun x hx=>by
    rcases J5.mp hx with e|hx
    ·rw[e];exact hr
    ·exact sub x hx
   rw[Jt] at this;omega
 by_cases hlen:E.length=ts.length
 rotate_left
 ·rw[decide_eq_false (fun z=>hlen (by injection z with z;omega))]
  refine cj (q0 _ Ip ?_)
  have:¬ ∀r∈ts,r∈E:=fun h=>hlen (HX.mp h)
  exact Classical.byContradiction fun sT=>this fun r hr=>Classical.byContradiction fun hn=>sT ⟨r,(mem r).mp hr,fun he=>hn (he.mem ek r ((mem r).mp hr) rfl)⟩
 rw[decide_eq_true (by rw[hlen])]
 refine bA ?_
 have Gi:∀r,cW B r↔r∈E:=fun r=>⟨fun h=>HX.mpr hlen r ((mem r).mpr h),eL r⟩
 have Qg:=hB.same Ip
 dsimp only[qF]
 refine bW (te:=kX _ _ _ _ _ _ _) (fun v H'=>bO fun(cd:Addr) (kvs:List (Key×V))=>v = .ref cd/\au H2 H'/\H2 cd=none/\H' cd=some (.dK kvs)/\∀x,(av kvs (.inr x)).isSome=true ↔ ∃q∈B,q.2=x) (fun Qn qn =>?_) ?_
 ·obtain⟨vs,hv,zd⟩:=Qg
  have QS:=nP zd
  refine⟨_,rfl,l,rfl,⟨_,hv⟩,fun D hD =>?_⟩
  refine⟨fun i m H'=>∃kvs:List (Key×V),m=B.length-i/\i<=B.length/\au H2 H'/\H' D=some (.dK kvs)/\kvs.length<=i/\∀x,(av kvs (.inr x)).isSome=true ↔ ∃q∈B.take i,q.2=x,⟨_,[],rfl,Us _,aQ hD _,ar,Jf _,fun x=>⟨(fun h=>nomatch h),fun⟨q,hq,_⟩=>nomatch hq⟩⟩,?_⟩
  intro i m H3
  refine ae.go ?_
  rintro kvs rfl hi s3 hD3 kl km
  by_cases bN:i<B.length
  ·refine ae.el (qH zd bN) _ ?_
   rintro tp e1 e2
   refine .inr ⟨⟨_,_,s3.seq hv,e1⟩,?_⟩
   rintro y H4 ⟨rfl,hy⟩
   have e:=hy _ (s3.seq hv)
   rw[e1] at e;cases e
   refine⟨tp,_,rfl,s3.i7 e2,rfl,_,_,rfl,_,_,rfl,rfl,?_⟩
   dsimp only[fP]
   rw[if_pos rfl]
   have cD:=aG bN
   generalize B[i]=z at cD
   refine⟨_,rfl,kvs,.inr z.2,hD3,rfl,small (by omega),B.length-(i+1),by omega,_,rfl,bN,fun b o e =>?_,ar,?_,fun x =>?_⟩
   ·rw[aj (ai e hD)];exact s3 b o e
   ·have:=cV kvs (.inr z.2) (V.bl true);omega
   ·rw[cN,cD]
    by_cases hx:x=z.2
    ·subst hx
     rw[if_pos rfl]
     exact⟨fun _=>⟨z,Jj _ (Jd.mpr rfl),rfl⟩,fun _=>rfl⟩
    ·rw[if_neg (fun e=>hx (by injection e)),km]
     exact⟨fun⟨q,hq,e⟩=>⟨q,Jx _ hq,e⟩,fun⟨q,hq,e⟩=>by
      rcases Ji.mp hq with hq|hq
      ·exact⟨q,hq,e⟩
      ·rw[Jd.mp hq] at e;exact absurd e.symm hx⟩
  ·have e:i=B.length:=by omega
   subst e
   rw[J3] at km
   exact .inl ⟨⟨_,s3.seq hv,by omega⟩,qn _ _ ⟨D,kvs,rfl,s3,hD,hD3,km⟩⟩
 intro v H3
 refine ae.go ?_
 rintro cd kvs rfl s3 hcd0 hcd3 km
 refine gn ?_
 refine fun dl H4 n4=>gn ?_
 have LF:=s3.trans n4.same
 have zc:=LF _ _ hd2
 have KI:=n4.same _ _ hcd3
 have Hg:H dl=none:=by
  cases e:H dl with
  | none=>rfl
  | some o=>have:=n4.nn;rw[s3 _ _ (Ip _ _ e)] at this;cases this
 have MT:d≠dl:=ai (s3 _ _ hd2) n4.nn
 have Qj:cd≠dl:=ai hcd3 n4.nn
 have Rr:p1≠dl:=ai (s3 _ _ nW) n4.nn
 have pd:p1≠d:=fun z=>by rw[z,hd2] at nW;cases nW
 dsimp only
 refine cz (t:=nO _ _ _) (fun σ H'=>bO fun(x5 x6:Option V)=>∃rks:List (Key×V),σ=[some (.ref l),some (.ref p1),some (.ref d),some (.ref cd),some (.ref dl),x5,x6]/\au H H'/\H' p1=some (.lst (ts.map V.str))/\H' dl=some (.dK rks)/\yY B E rks) (fun Nx nx =>?_) ?_
 ·refine⟨_,rfl,d,_,rfl,zc,fun ob =>?_⟩
  obtain⟨H5,c5⟩:∃H5,jT H4 d (.frz ob (.dK (E.map dW))) H5:=⟨_,⟨rfl⟩⟩
  rw[<-c5.eq]
  have s5:au H H5:=fun b o e=>by rw[c5.ne (ai e kF)];exact LF _ _ (Ip b o e)
  have qx:cd≠d:=fun z=>by rw[z,hd2] at hcd0;cases hcd0
  have IK:H5 cd=some (.dK kvs):=by rw[c5.ne qx];exact KI
  have DF:H5 dl=some (.dK []):=by rw[c5.ne (Ne.symm MT)];exact n4.at
  have qD:H5 p1=some (.lst (ts.map V.str)):=by rw[c5.ne pd];exact LF _ _ nW
  have HG:(E.map dW).length=E.length:=Ja _
  refine fQ (N:=E.length) (fun i σ H'=>bO fun(x5 x6:Option V)=>∃rks:List (Key×V),σ=[some (.ref l),some (.ref p1),some (.ref d),some (.ref cd),some (.ref dl),x5,x6]/\(∀b o,b≠dl->H5 b=some o->H' b=some o)/\H' dl=some (.dK rks)/\yY B (E.take i) rks) ⟨_,_,[],rfl,(fun b o _ e=>e),DF,⟨Ws,(fun k h=>nomatch h),fun x h=>nomatch h⟩⟩ ?_ ?_
  ·intro i σ H6 hi
   refine ae.go ?_
   rintro x5 x6 rks rfl k6 hdl6 dls
   refine⟨⟨k6 _ _ MT c5.at,by rw[HG];exact hi⟩,?_⟩
   rintro v H7 ⟨rfl,kq,hkq,rfl⟩
   rw[Jl,Jg hi] at hkq
   cases hkq
   have cD:=aG hi
   have eh:=eL _ (Jn hi)
   have GP:E[i]∉E.take i:=fun h=>by
    refine ae.el (Yb.mp h) _ ?_
    rintro j hj e
    rw[J6] at hj
    rw[List.getElem_take] at e
    have:=(List.getElem_inj ndE).mp e
    omega
   have bN:=ordE (E.take i) E[i] (E.drop (i+1)) (by rw[List.getElem_cons_drop,Yi])
   generalize E[i]=x at cD eh GP bN
   have Bl:=eh.len gB
   have QD:=dls.le
   have RC:(E.take i).length<=200:=by rw[J6];omega
   have s7:au H H7:=fun b o e=>k6 b o (ai e Hg) (s5 b o e)
   have KO:=k6 _ _ Qj IK
   refine gn ?_
   show uQ _ _ _ ([some (.ref l),some (.ref p1),some (.ref d),some (.ref cd),some (.ref dl),some (.str x),x6]:L2.St) _
   refine bW (te:=eO _ _ _ _ _ _) (fun v H'=>bO fun(fp:Addr) (ns:List Nat)=>v = .ref fp/\au H7 H'/\H' fp=some (.lst (nI ns))/\∀a,a∈ns ↔ ∃q∈B,∃r,∃n:Nat,Bh q x r/\av rks (.inr r)=some (.int n)/\a=n+1) (fun Qn qn =>?_) ?_
   ·refine⟨_,rfl,_,rfl,l,x,B,rfl,hB.same s7,gB,by omega,fun as p9 H9 s9 hp90 oQ al ha hcv=>⟨p9,rfl,⟨_,aD.of oQ⟩,?_⟩⟩
    have B0:∀{j:Nat} (hj:j<as.length),(as.map fun z=>V.ref z.1)[j]? = some (.ref as[j].1):=fun hj=>by rw[Jl,Jg hj];rfl
    have MD:=s9 _ _ hdl6
    refine aV (N:=as.length) (fun j ys H'=>H'=H9/\∃ns:List Nat,ys=nI ns/\ns.length=j/\∀a,a∈ns ↔ ∃z∈as.take j,∃n:Nat,av rks (.inr z.2.2)=some (.int n)/\a=n+1) ⟨rfl,[],rfl,rfl,fun a=>⟨(fun h=>nomatch h),fun⟨z,hz,_⟩=>nomatch hz⟩⟩ ?_ ?_
    ·intro j ys H10 Ny hj hz_ ny
     refine ae.el hz_ _ ?_
     clear hz_
     rintro rfl ns rfl nl nm
     refine⟨⟨_,_,aD.of oQ,B0 hj⟩,small (by unfold nI;rw[Ja];omega),?_⟩
     rintro v qb ⟨rfl,hv⟩
     have e:=hv _ (aD.of oQ)
     rw[B0 hj] at e;cases e
     refine ae.el (ha _ (Jn hj)) _ ?_
     rintro hz xk hzb
     have Fq:=aG hj
     generalize as[j]=z at hz xk hzb Fq
     refine⟨_,_,rfl,fw.of hz,rfl,_,_,rfl,_,_,rfl,_,_,rfl,rfl,?_⟩
     refine ae.el (dls.at' _ (bN _ xk _ hzb)) _ ?_
     rintro n _ ho
     have jz:=cK.k (k:=Sum.inr z.2.2) MD
     rw[ho] at jz
     dsimp only[fP]
     rw[if_pos rfl]
     refine⟨_,rfl,_,rfl,dl,_,rfl,jz,.inl ⟨_,_,rfl,rfl,ny _ _ ⟨rfl,ns++[n+1],?_,by rw[Je,nl];rfl,fun a =>?_⟩⟩⟩
     ·unfold nI
      rw[Jh]
      have e:(1:Int)+(n:Int)=((n+1:Nat):Int):=by omega
      rw[e];rfl
     ·rw[Ji,Jd,nm,Fq]
      refine⟨fun h =>?_,fun⟨y,hy,n',h1,h2⟩=>?_⟩
      ·rcases h with ⟨y,hy,n',h1,h2⟩|h
       ·exact⟨y,Jx _ hy,n',h1,h2⟩
       ·exact⟨z,Jj _ (Jd.mpr rfl),n,ho,h⟩
      ·rcases Ji.mp hy with hy|hy
       ·exact .inl ⟨y,hy,n',h1,h2⟩
       ·rw[Jd.mp hy,ho] at h1
        have h1:=Option.some.inj h1
        injection h1 with h1
        exact .inr (by omega)
    ·intro ys H10
     refine ae.go ?_
     rintro rfl ns rfl nl nm
     rw[J3] at nm
     refine⟨⟨_,aD.of oQ,by rw[Ja];exact Jf _⟩,fun p hp=>qn _ _ ⟨p,ns,rfl,s9.trans (aQ hp _),ar,fun a =>?_⟩⟩
     rw[nm]
     refine⟨fun⟨z,hz,n,h1,h2⟩=>?_,fun⟨q,hq,r,n,hb,h1,h2⟩=>?_⟩
     ·refine ae.el (ha z hz) _ ?_
      rintro _ xk hzb
      exact⟨z.2.1,xk,z.2.2,n,hzb,h1,h2⟩
     ·refine ae.el (hcv q hq r hb) _ ?_
      rintro z hz e1 e2
      exact⟨z,hz,n,by rw[e2];exact h1,h2⟩
   intro v H8
   refine ae.go ?_
   rintro fp ns rfl s8 EH nm
   refine gn ?_
   have Ky:=s8 _ _ KO
   have KP:=s8 _ _ hdl6
   have ei:nI ns=(ns.map fun n:Nat=>(n:Int)).map V.int:=by unfold nI;rw[Ye];rfl
   rw[ei] at EH
   have fin:∀{m:Nat},qA (fun a=>((∃q∈B,q.2=x)/\a=1)∨∃q∈B,∃r,∃n:Nat,Bh q x r/\av rks (.inr r)=some (.int n)/\a=n+1) m->∃H9,gq H8 dl (.str x) (.int (m:Nat)) H9/\(∀b o,b≠dl->H5 b=some o->H9 b=some o)/\H9 dl=some (.dK (rks++[(.inr x,.int (m:Nat))]))/\yY B (E.take (i+1)) (rks++[(.inr x,.int (m:Nat))]):=fun{m} hm=>by
    refine⟨_,gq.k (k:=Sum.inr x) KP (small (by omega)),?_⟩
    rw[cP _ (dls.no GP)]
    exact⟨fun b o hb e=>by rw[aj hb];exact s8 _ _ (k6 b o hb e),ar,by rw[cD];exact dls.more GP bN hm⟩
   have big:∀{M:Int} {d0:Nat},(d0=open Classical in if (∃q∈B,q.2=x) then 1 else 0)->((ns.map fun n:Nat=>(n:Int))=[]/\M=d0)∨(M∈(ns.map fun n:Nat=>(n:Int))/\∀a∈(ns.map fun n:Nat=>(n:Int)),a<=M)->∃m:Nat,M=m/\qA (fun a=>((∃q∈B,q.2=x)/\a=1)∨∃q∈B,∃r,∃n:Nat,Bh q x r/\av rks (.inr r)=some (.int n)/\a=n+1) m:=fun{M d0} kF hM=>by
    have fR:∀a,a∈ns->∃q∈B,∃r,∃n:Nat,Bh q x r/\av rks (.inr r)=some (.int n)/\a=n+1:=fun a=>(nm a).mp
    rcases hM with ⟨hn,e⟩|⟨hM,hmx⟩
    ·have hn:ns=[]:=List.map_eq_nil_iff.mp hn
     refine⟨d0,e,?_,fun a ha =>?_⟩
     ·by_cases c:∃q∈B,q.2=x
      ·rw[if_pos c] at kF;exact .inr (.inl ⟨c,kF⟩)
      ·rw[if_neg c] at kF;exact .inl kF
     ·rcases ha with ⟨c,e⟩|h
      ·rw[if_pos c] at kF;omega
      ·have:=(nm a).mpr h
       rw[hn] at this;cases this
    ·refine ae.el (J0.mp hM) _ ?_
     rintro m hm rfl
     refine⟨m,rfl,.inr (.inr (fR m hm)),fun a ha =>?_⟩
     rcases ha with ⟨_,e⟩|h
     ·refine ae.el (fR m hm) _ ?_
      rintro _ _ _ n _ _ e2
      omega
     ·have:=hmx _ (J8 ((nm a).mpr h))
      omega
   refine⟨_,rfl,_,rfl,_,rfl,cd,_,rfl,cK.k (k:=Sum.inr x) Ky,_,rfl,eX (fun c =>?_) (fun c =>?_)⟩
   ·refine⟨fp,_,1,rfl,rfl,aD.of EH,fun M hM =>?_⟩
    refine ae.el (big (d0:=1) (by rw[if_pos ((km x).mp c)]) hM) _ ?_
    rintro m rfl hm
    refine ae.el (fin hm) _ ?_
    rintro H9 hput f1 f2 f3
    exact⟨_,rfl,_,rfl,dl,H9,rfl,hput,_,_,_,rfl,f1,f2,f3⟩
   ·refine⟨fp,_,0,rfl,rfl,aD.of EH,fun M hM =>?_⟩
    refine ae.el (big (d0:=0) (by rw[if_neg (fun z=>c ((km x).mpr z))]) hM) _ ?_
    rintro m rfl hm
    refine ae.el (fin hm) _ ?_
    rintro H9 hput f1 f2 f3
    exact⟨_,rfl,_,rfl,dl,H9,rfl,hput,_,_,_,rfl,f1,f2,f3⟩
  ·intro σ H6
   refine ae.go ?_
   rintro x5 x6 rks rfl k6 hdl6 dls
   rw[J3] at dls
   exact⟨⟨k6 _ _ MT c5.at,by rw[HG];exact Jf _⟩,nx _ _ ⟨x5,x6,rks,rfl,fun b o e=>k6 b o (ai e Hg) (s5 b o e),k6 _ _ Rr qD,hdl6,dls⟩⟩
 intro σ H5
 refine ae.go ?_
 rintro x5 x6 rks rfl s5 qD DF dls
 have eE:∀{i:Nat} (hi:i<ts.length),(ts.map V.str)[i]? = some (.str ts[i]):=fun hi=>by rw[Jl,Jg hi];rfl
 refine⟨_,rfl,p1,rfl,⟨_,aD.of qD⟩,?_⟩
 refine aV (N:=ts.length) (fun i ys H'=>∃zs:List Rz,ys=zs.map (fun z=>V.ref z.1)/\au H5 H'/\zs.map (·.2.1)=ts.take i/\(∀z∈zs,pz H' z)/\∀z∈zs,Rk (fg B) (sg z.2.1) z.2.2) ⟨[],rfl,au.refl _,rfl,(fun z h=>nomatch h),fun z h=>nomatch h⟩ ?_ ?_
 ·intro i ys H6 Ny hi hz_ ny
  refine ae.el hz_ _ ?_
  clear hz_
  rintro zs rfl s6 ez hz hrk
  have zl:zs.length<=i:=by
   have:=congrArg J9 ez
   rw[Ja,J6] at this
   omega
  refine⟨⟨_,_,aD.of (s6 _ _ qD),eE hi⟩,small (by rw[Ja];omega),?_⟩
  rintro v H7 ⟨rfl,hv⟩
  have e:=hv _ (aD.of (s6 _ _ qD))
  rw[eE hi] at e;cases e
  have hl:=(Gi _).mp ((mem _).mp (Jn hi))
  have cD:=aG hi
  generalize ts[i]=x at hl cD
  refine ae.el (dls.at' x hl) _ ?_
  rintro n hn ho
  have jz:=cK.k (k:=Sum.inr x) (s6 _ _ DF)
  rw[ho] at jz
  refine gn ?_
  dsimp only[fP]
  rw[if_pos rfl]
  refine⟨_,rfl,_,rfl,_,rfl,dl,_,rfl,jz,by show 2<=sizeLine;decide,fun t H8 n8=>ny _ _ ⟨zs++[(t,x,n)],by rw[Jh];rfl,s6.trans n8.same,by rw[Jh,ez,cD];rfl,fun z hz' =>?_,fun z hz' =>?_⟩⟩
  ·rcases Ji.mp hz' with hz'|hz'
   ·exact(hz z hz').same n8.same
   ·rw[Jd.mp hz'];exact n8.at
  ·rcases Ji.mp hz' with hz'|hz'
   ·exact hrk z hz'
   ·rw[Jd.mp hz'];exact hn
 ·intro ys H6
  refine ae.go ?_
  rintro zs rfl s6 ez hz hrk
  rw[J3] at ez
  refine⟨⟨_,aD.of (s6 _ _ qD),by rw[Ja];exact Jf _⟩,fun p hp=>q p zs _ (s5.trans (s6.trans (aQ hp _))) ?_ ⟨ar,fun z hz'=>(hz z hz').same (aQ hp _),hrk,by rw[ez];exact nd,by rw[ez];exact mem,by rw[ez];exact pw,?_⟩ fun r hr =>?_⟩
  ·cases e:H p with
   | none=>rfl
   | some o=>rw[s6 _ _ (s5 _ _ e)] at hp;cases hp
  ·have:=congrArg J9 ez
   rw[Ja] at this
   omega
  ·have key:∀(n:Nat) (E1:List Str),E1.length<=n->(∃E2,E=E1++E2)->∀r∈E1,En (fg B) (sg r):=fun n=>by
    induction n with
    | zero=>intro E1 h1 _ r hr;rw[J7 (Nat.le_zero.mp h1)] at hr;cases hr
    | succ n ih=>
     intro E1 h1 ⟨E2,e⟩ r hr
     refine ae.el (List.append_of_mem hr) _ ?_
     rintro A C rfl
     have hA:A.length<=n:=by rw[Je,Jt] at h1;omega
     refine .mk _ fun c hc r' hl =>?_
     refine ae.el (ck.mp hc) _ ?_
     rintro q' hq' rfl
     have hb:Bh q' r (toS r'):=gG.mpr (by rw[dF];exact hl)
     have hm:=ordE A r (C++E2) (by rw[e];simp) q' hq' _ hb
     have:=ih A hA ⟨r::(C++E2),by rw[e];simp⟩ _ hm
     rw[dF] at this
     exact this
   exact key E.length E (Jf _) ⟨[],(Uo _).symm⟩ r ((Gi r).mp hr)
end
noncomputable abbrev rR:Str := "01"
noncomputable def oM (x y:Str):Bool:=decide (V.str (Txt.stripChars x y)=V.str (Str.ofString ""))
theorem split_not {g:Nat->Bool}:∀(l:List Nat),l.all g=false->∃p c r,l=p++c::r/\(∀a∈p,g a=true)/\g c=false
 | [],h=>by cases h
 | a::l,h=>by
  cases ha:g a with
  | false=>exact⟨[],a,l,rfl,(fun _ z=>nomatch z),ha⟩
  | true=>
   rw[List.all_cons,ha,Bool.true_and] at h
   refine ae.el (split_not l h) _ ?_
   rintro p c r rfl hp hc
   refine⟨a::p,c,r,rfl,fun x hx =>?_,hc⟩
   rcases J5.mp hx with rfl|hx
   ·exact ha
   ·exact hp x hx
theorem rp (x y:Str):oM x y=x.cps.toList.all y.cps.contains:=by
 unfold oM Txt.stripChars
 rw[PyProof.Rows.stripBy_eq]
 generalize y.cps.contains=g
 unfold stripHi stripLo
 simp only[if_true]
 have sub:∀i j:Nat,decide (V.str (Builtin.Str.strSub x i j)=V.str (Str.ofString ""))=decide (min j x.length<=i):=fun i j=>by
  congr 1
  refine propext ⟨fun h =>?_,fun h =>?_⟩
  ·injection h with h
   have h:=congrArg (fun s:Str=>s.cps.size) h
   have e0:(Str.ofString "").cps.size=0:=rfl
   simp only[Builtin.Str.strSub,Array.size_extract,e0] at h
   have:x.cps.size=x.length:=rfl
   omega
  ·congr 1
   unfold Builtin.Str.strSub
   have e:x.cps.extract i j = #[]:=by
    apply Array.eq_empty_of_size_eq_zero
    rw[Array.size_extract]
    have:x.cps.size=x.length:=rfl
    omega
   rw[e]
   rfl
 rw[sub]
 have hlen:x.length=x.cps.toList.length:=by simp[Str.length]
 rw[hlen]
 generalize x.cps.toList=l
 by_cases h:l.all g=true
 ·rw[h]
  have e:l.takeWhile g=l:=by
   clear sub hlen
   induction l with
   | nil=>rfl
   | cons a l ih=>
    rw[List.all_cons,Yh] at h
    rw[List.takeWhile_cons,if_pos h.1,ih h.2]
  rw[e]
  exact decide_eq_true (by omega)
 ·have hf:l.all g=false:=by simpa using h
  rw[hf]
  apply decide_eq_false
  intro z
  refine ae.el (split_not l hf) _ ?_
  rintro p c r rfl hp hc
  have e:(p++c::r).takeWhile g=p:=by
   clear z hlen sub h hf
   induction p with
   | nil=>rw[List.nil_append,List.takeWhile_cons,hc];rfl
   | cons a p ih=>
    rw[List.cons_append,List.takeWhile_cons,if_pos (hp a Js),ih fun x hx=>hp x (Jq _ hx)]
  have ed:(p++c::r).drop p.length=c::r:=List.drop_left
  rw[e,ed] at z
  have hl:(p++c::r).length=p.length+(r.length+1):=by rw[Je,Jt]
  have tl:((c::r).reverse.takeWhile g).length<=r.length:=by
   rw[List.reverse_cons]
   have:((r.reverse++[c]).takeWhile g).length<=r.reverse.length:=by
    rw[List.takeWhile_append]
    split
    ·rw[Je]
     have e:[c].takeWhile g=[]:=by simp[List.takeWhile,hc]
     rw[e];simp
    ·exact(List.takeWhile_prefix g).length_le
   rw[List.length_reverse] at this
   exact this
  omega
theorem ye {x:Str}(h:jo x):oM x rR=true:=by
 rw[rp,Y3]
 intro c hc
 rcases h c hc with rfl|rfl<;>decide +kernel
def m9:Sp:=fun vs H Q _=>∃x y:Str,vs=[.str x,.str y]/\x.length<=1000000/\Q (.bl (oM x y)) H
def uv:Sp:=fun vs H Q _=>∃x:Str,vs=[.str x]/\x.length<=1000/\jo x/\Q (.bl (!decide (x = ""))) H
def tL (K:Jc):Sp:=fun vs H Q _=>∃n:Int,vs=[.int n]/\Q (.bl true) H
section
variable {P:Program}{w:World}{K:Jc}{mg:Str->Option Value}{base:Heap}{f:Addr}{fd:FuncData}{t3:Tok}
theorem sO:aN ["text", "signs"] ["text", "signs"] (aB (top jB)):=⟨rfl,rfl,rfl,by decide +kernel,rfl,by decide +kernel,by decide +kernel⟩
theorem Az (F:cY K "made_of" "made_of" (top jB) f fd)(T:Nm mg):bI P w K mg base fY 1 f fd ["text", "signs"] m9:=by
 refine F.ok sO (fun vs H Q E h =>?_) (fun d9 A outer s H vs Q E hr h =>?_)
 ·obtain⟨x,y,rfl,_⟩:=h
  rfl
 unfold m9 at h
 refine ae.el h _ ?_
 clear h
 rintro x y rfl hx q
 have eZ:=hr.units
 refine⟨_,(ao (aM (dk (vU K eZ) (sr K PySem.F.plainAttrs_str PySem.F.slot_str_strip PySem.F.type_str_strip vh (pv 0) (aa (pv 1) ag)) bf (aH _)))),?_⟩
 exact⟨_,rfl,rfl,_,rfl,x,y,rfl,rfl,sizeOk (by omega),.inl ⟨rfl,q⟩⟩
theorem sF:aN ["thing"] ["thing"] (aB (top jk)):=⟨rfl,rfl,rfl,by decide +kernel,rfl,by decide +kernel,by decide +kernel⟩
theorem C0 (F:cY K "is_code" "is_code" (top jk) f fd)(T:Nm mg)(nQ:mg "SIGNS" = some (.str rR t3))(uC:Fn P w K mg base 1 "made_of" ["text", "signs"] m9):bI P w K mg base fY 2 f fd ["thing"] uv:=by
 refine F.ok sF (fun vs H Q E h =>?_) (fun d9 A outer s H vs Q E hr h =>?_)
 ·obtain⟨x,rfl,_⟩:=h
  rfl
 unfold uv at h
 refine ae.el h _ ?_
 clear h
 rintro x rfl hx hb q
 have eZ:=hr.units
 refine⟨_,(ao (aM (eU (aq (iR K) rfl T.n_isinstance (by rfl) (aa (pv 0) (aa (bJ rfl T.n_str (by rfl) (v := .ty "str") rfl) ag))) (eU (dk (oP K eZ) (pv 0) bf (aH _)) (gW (bb (uC.mono (by decide)) hr rfl (aa (pv 0) (aa (zI rfl nQ) ag)))))))),?_⟩
 refine⟨_,rfl,.inl ⟨_, "str",.str x,_,rfl,(by unfold Den;rfl),(B7 K (.str x)).2.2.1,_,rfl,?_⟩⟩
 have ed:decide (V.str x=V.str (Str.ofString ""))=decide (x = ""):=decide_eq_decide.mpr ⟨fun h=>(by injection h),fun h=>by rw[h]⟩
 refine cj ⟨_,rfl,.inl ⟨rfl,_,rfl,?_⟩⟩
 rw[ed]
 refine eX (fun c1 =>?_) (fun c1 =>?_)
 ·rw[c1] at q
  refine⟨_,rfl,x,_,rfl,by omega,?_⟩
  rw[ye hb];exact q
 ·rw[Bool.eq_false_iff.mpr c1] at q
  exact q
theorem nK:aN ["thing"] ["thing"] (aB (top gP)):=⟨rfl,rfl,rfl,by decide +kernel,rfl,by decide +kernel,by decide +kernel⟩
theorem CJ (F:cY K "is_number" "is_number" (top gP) f fd)(T:Nm mg):bI P w K mg base fY 1 f fd ["thing"] (tL K):=by
 refine F.ok nK (fun vs H Q E h =>?_) (fun d9 A outer s H vs Q E hr h =>?_)
 ·obtain⟨n,rfl,_⟩:=h
  rfl
 unfold tL at h
 refine ae.el h _ ?_
 clear h
 rintro n rfl q
 refine⟨_,(ao (aM (eU (aq (iR K) rfl T.n_isinstance (by rfl) (aa (pv 0) (aa (bJ rfl T.n_int (by rfl) (v := .ty "int") rfl) ag))) (gW (yq (aq (iR K) rfl T.n_isinstance (by rfl) (aa (pv 0) (aa (bJ rfl T.n_bool (by rfl) (v := .ty "bool") rfl) ag)))))))),?_⟩
 refine⟨_,rfl,.inl ⟨_, "int",.int n,_,rfl,(by unfold Den;rfl),(B7 K (.int n)).2.1,_,rfl,cj ⟨_,rfl,.inl ⟨_, "bool",.int n,_,rfl,(by unfold Den;rfl),(B7 K (.int n)).1,_,rfl,q⟩⟩⟩⟩
end
def Ab (K:Jc):Sp:=fun vs H Q _=>∃z:Rz,vs=[.ref z.1]/\pz H z/\jo z.2.1/\1<=z.2.1.length/\z.2.1.length<=12/\Q (.bl true) H
def Ae (K:Jc):Sp:=fun vs H Q _=>lU fun(l d:Addr) (x:Str) (B:List (Str×Str))=>∃kvs:List (Key×V),vs=[.ref l,.ref d,.str x]/\vP K H B l/\dB B/\Rd H d (.dK kvs)/\cW B x/\(∀r,cW B r->∃n:Nat,av kvs (.inr r)=some (.int n)/\Rk (fg B) (sg r) n)/\∀H',au H H'->Q (.bl true) H'
def ue (K:Jc):Sp:=fun vs H Q _=>lU fun(l p:Addr) (B:List (Str×Str)) (zs:List Rz)=>vs=[.ref l,.ref p]/\vP K H B l/\dB B/\qW B H p zs/\∀H',au H H'->Q (.bl true) H'
theorem zY {H H':Hp}{a:Addr}{u:HO}(h:Rd H a u)(s:au H H'):Rd H' a u:=h.elim (fun h =>.inl (s _ _ h)) fun⟨o,h⟩=>.inr ⟨o,s _ _ h⟩
noncomputable def za (z:Rz):Key×V:=(.inr z.2.1,.int (z.2.2:Nat))
section
variable {P:Program}{w:World}{K:Jc}{mg:Str->Option Value}{base:Heap}{f:Addr}{fd:FuncData}
theorem oj:aN ["thing"] ["thing"] (aB (top gR)):=⟨rfl,rfl,rfl,by decide +kernel,rfl,by decide +kernel,by decide +kernel⟩
theorem Fu (F:cY K "is_ranked" "is_ranked" (top gR) f fd)(T:Nm mg)(vm:Fn P w K mg base 2 "is_code" ["thing"] uv)(qQ:Fn P w K mg base 1 "is_number" ["thing"] (tL K)):bI P w K mg base fY 3 f fd ["thing"] (Ab K):=by
 refine F.ok oj (fun vs H Q E h =>?_) (fun d9 A outer s H vs Q E hr h =>?_)
 ·obtain⟨z,rfl,_⟩:=h
  rfl
 unfold Ab at h
 refine ae.el h _ ?_
 clear h
 rintro z rfl hz hb h1 h2 q
 have eZ:=hr.units
 refine⟨_,(ah (cb (PW.pt (tV (kD (dc (aq (iR K) rfl T.n_isinstance (by rfl) (aa (pv 0) (aa (bJ rfl T.n_tuple (by rfl) (v := .ty "tuple") rfl) ag))))) (oK (aI (oP K eZ) (aq (dE K) rfl T.n_len (by rfl) (aa (pv 0) ag)) aw (aH _))))) (ao (aM ee)) ba)
  (ao (aM (eU (bb (vm.mono (by decide)) hr rfl (aa (ji (A3 K) (pv 0) aw (fun _ _=>rfl)) ag)) (eU (bb (qQ.mono (by decide)) hr rfl (aa (ji (A3 K) (pv 0) aw (fun _ _=>rfl)) ag)) (gW (dk Bj (ji (A3 K) (pv 0) aw (fun _ _=>rfl)) aw (aH _)))))))),?_⟩
 have hd:Den K H (.tuple [.str z.2.1,.int (z.2.2:Nat)]) (.ref z.1):=by
  have:=rB (K:=K) (zs:=[z]) (H:=H) fun y hy=>by rw[Jd.mp hy];exact hz
  rw[List.map_singleton,List.map_singleton] at this
  unfold aO at this
  obtain⟨v,r,e,h1,_⟩:=this
  cases e
  exact h1
 refine⟨_,rfl,.inl ⟨_, "tuple",_,true,rfl,hd,rfl,_,rfl,?_⟩⟩
 refine bA ⟨_,rfl,_,_,rfl,.inr ⟨_,fw.of hz,rfl⟩,.inl ⟨rfl,_,rfl,?_⟩⟩
 refine bA ?_
 refine⟨_,rfl,.inr (.inl ⟨z.1,_,0,_,rfl,rfl,fw.of hz,rfl,?_⟩)⟩
 have e:(!decide (z.2.1 = ""))=true:=by
  rw[decide_eq_false (fun e=>by rw[e] at h1;exact absurd h1 (by decide))];rfl
 refine⟨z.2.1,rfl,by omega,hb,?_⟩
 rw[e]
 refine⟨_,rfl,cj ?_⟩
 refine⟨_,rfl,.inr (.inl ⟨z.1,_,1,_,rfl,rfl,fw.of hz,rfl,_,rfl,_,rfl,cj ?_⟩)⟩
 refine⟨_,rfl,.inr (.inl ⟨z.1,_,1,_,rfl,rfl,fw.of hz,rfl,_,_,rfl,rfl,?_⟩)⟩
 dsimp only
 rw[decide_eq_true (by omega)]
 exact q
theorem qV:aN ["book", "ranks", "lag", "laters"] ["book", "ranks", "lag"] (aB (top oC)):=⟨rfl,rfl,rfl,by decide +kernel,rfl,by decide +kernel,by decide +kernel⟩
theorem Gb (F:cY K "falls" "falls" (top oC) f fd)(T:Nm mg)(cR:Fn P w K mg base 2 "lags_behind" ["book", "lag"] (vp K)):bI P w K mg base fY 3 f fd ["book", "ranks", "lag"] (Ae K):=by
 refine F.ok qV (fun vs H Q E h =>?_) (fun d9 A outer s H vs Q E hr h =>?_)
 ·obtain⟨l,d,x,B,kvs,rfl,_⟩:=h
  rfl
 unfold Ae at h
 refine ae.el h _ ?_
 clear h
 rintro l d x B kvs rfl hB gB hd hx hv q
 have hu:=gA hr
 have Bl:=hx.len gB
 have small:∀{n:Nat},n<=10000->n<sizeLine:=fun h=>Ue h (by decide)
 refine⟨_,(ah (bz (i:=3) qV.nd rfl (Or.inl rfl) rfl (aK (Nc:=["name", "code", "later"]) (Fc:=[]) (js:=[])) (gr K (bb (cR.mono (by decide)) hr rfl (aa (pv 0) (aa (pv 2) ag)))) (fD (aP (aA (i:=0) (n:=3) (by decide)) (aP (aA (i:=1) (n:=3) (by decide)) (aP (aA (i:=2) (n:=3) (by decide)) dH aF bh) aF (br aF bh)) aF (br aF (br aF bh)))) (fun _ _ _ _ _=>(tupK K 3 rfl (aJ (ak (i:=0) (dN ["name", "code", "later"]) rfl (Or.inl rfl)) (aJ (ak (i:=1) (dN ["name", "code", "later"]) rfl (Or.inl rfl)) (aJ (ak (i:=2) (dN ["name", "code", "later"]) rfl (Or.inl rfl)) cB))))) (fun _ _ _ _ _=>aX) (fun _ _ _ _ _=>(pv 2)))
  (ao (aM (aq (rD K rfl) rfl T.n_all (by rfl) (aa (bg rfl (aK (Nc:=["later"]) (Fc:=["ranks", "lag"]) (js:=[1,2])) (gr K (pv 3)) (aA (i:=0) (n:=1) (by decide)) (fun _ _ _ _ _=>(ak (i:=0) (dN ["later", "ranks", "lag"]) rfl (Or.inl rfl))) (fun _ _ _ _ _=>aX) (fun _ _ _ _ _=>(eU (oN (kh hu (pv 0) (pv 1))) (gW (dk qv (bL hu (pv 1) (pv 0) (fun _ _=>rfl)) (bL hu (pv 1) (pv 2) (fun _ _=>rfl)) (aH _)))))) ag))))),?_⟩
 refine bW (te:=eO _ _ _ _ _ _) (fun v H'=>bO fun(p:Addr) (ls:List Str)=>v = .ref p/\au H H'/\H' p=some (.lst (ls.map V.str))/\ls.length<=16/\∀r∈ls,∃q∈B,Bh q x r) (fun Qn qn =>?_) ?_
 ·refine⟨_,rfl,_,rfl,l,x,B,rfl,hB,gB,by omega,fun as p9 H9 s9 hp90 oQ al ha hcv=>⟨p9,rfl,⟨_,aD.of oQ⟩,?_⟩⟩
  have B0:∀{j:Nat} (hj:j<as.length),(as.map fun z=>V.ref z.1)[j]? = some (.ref as[j].1):=fun hj=>by rw[Jl,Jg hj];rfl
  refine aV (N:=as.length) (fun j ys H'=>H'=H9/\∃ls:List Str,ys=ls.map V.str/\ls.length=j/\∀r∈ls,∃q∈B,Bh q x r) ⟨rfl,[],rfl,rfl,fun r h=>nomatch h⟩ ?_ ?_
  ·intro j ys H10 Ny hj hz_ ny
   refine ae.el hz_ _ ?_
   clear hz_
   rintro rfl ls rfl nl nm
   refine⟨⟨_,_,aD.of oQ,B0 hj⟩,small (by rw[Ja];omega),?_⟩
   rintro v qb ⟨rfl,hv⟩
   have e:=hv _ (aD.of oQ)
   rw[B0 hj] at e;cases e
   obtain⟨hz,xk,hzb⟩:=ha _ (Jn hj)
   generalize as[j]=z at hz xk hzb
   refine⟨_,_,rfl,fw.of hz,rfl,_,_,rfl,_,_,rfl,_,_,rfl,rfl,?_⟩
   dsimp only[fP]
   rw[if_pos rfl]
   refine⟨_,rfl,ny _ _ ⟨rfl,ls++[z.2.2],by rw[Jh];rfl,by rw[Je,nl];rfl,fun r hr =>?_⟩⟩
   rcases Ji.mp hr with hr|hr
   ·exact nm r hr
   ·rw[Jd.mp hr];exact⟨_,xk,hzb⟩
  ·intro ys H10
   refine ae.go ?_
   rintro rfl ls rfl nl nm
   exact⟨⟨_,aD.of oQ,by rw[Ja];exact Jf _⟩,fun p hp=>qn _ _ ⟨p,ls,rfl,s9.trans (aQ hp _),ar,by omega,nm⟩⟩
 intro v H1
 refine ae.go ?_
 rintro p ls rfl s1 kb ll lm
 refine gn ?_
 have eE:∀{i:Nat} (hi:i<ls.length),(ls.map V.str)[i]? = some (.str ls[i]):=fun hi=>by rw[Jl,Jg hi];rfl
 have BO:=zY hd s1
 obtain⟨PJ,hxv,hxr⟩:=hv x hx
 have Mf:cK H1 d (.str x) (some (.int (PJ:Nat))) := .inl ⟨kvs,.inr x,BO,rfl,hxv.symm⟩
 refine⟨_,rfl,p,rfl,⟨_,aD.of kb⟩,?_⟩
 refine aV (N:=ls.length) (fun j ys H'=>H'=H1/\ys=(Jp j true).map V.bl) ⟨rfl,rfl⟩ ?_ ?_
 ·rintro j ys H2 Ny hj ⟨rfl,rfl⟩ ny
  refine⟨⟨_,_,aD.of kb,eE hj⟩,small (by rw[Ja,Uk];omega),?_⟩
  rintro y H3 ⟨rfl,hy⟩
  have e:=hy _ (aD.of kb)
  rw[eE hj] at e;cases e
  obtain⟨q',hq',hb⟩:=lm _ (Jn hj)
  generalize ls[j]=r at hb
  obtain⟨n,hn,hrk⟩:=hv r (hx.lt hq' hb)
  have hg:cK H3 d (.str r) (some (.int (n:Nat))) := .inl ⟨kvs,.inr r,BO,rfl,hn.symm⟩
  have bN:=hxr.lt hrk (ck.mpr ⟨q',hq',rfl⟩) (gG.mp hb)
  refine gn ?_
  dsimp only[fP]
  rw[if_pos rfl]
  refine⟨_,rfl,_,rfl,d,_,rfl,hg,_,rfl,cj ⟨_,rfl,_,rfl,d,_,rfl,hg,_,rfl,_,rfl,d,_,rfl,Mf,_,_,rfl,rfl,?_⟩⟩
  dsimp only
  rw[decide_eq_true (by omega)]
  refine ny _ _ ⟨rfl,?_⟩
  rw[Y7,Jh];rfl
 ·rintro ys H2 ⟨rfl,rfl⟩
  refine⟨⟨_,aD.of kb,by rw[Ja];exact Jf _⟩,fun p2 nW =>?_⟩
  refine⟨p2,_,rfl,aD.of ar,?_⟩
  have e:(Jp ls.length true).all id=true:=Y3.mpr fun b hb=>(List.mem_replicate.mp hb).2
  rw[e]
  exact q _ (s1.trans (aQ nW _))
theorem hJ:aN ["book", "thing", "ranks"] ["book", "thing"] (aB (top fC)):=⟨rfl,rfl,rfl,by decide +kernel,rfl,by decide +kernel,by decide +kernel⟩
theorem CC (F:cY K "shows_ranks" "shows_ranks" (top fC) f fd)(T:Nm mg)(pC:Fn P w K mg base 3 "is_ranked" ["thing"] (Ab K))(gY:Fn P w K mg base 1 "code_ends" ["book"] (xU K))(zH:Fn P w K mg base 3 "falls" ["book", "ranks", "lag"] (Ae K)):bI P w K mg base fY 4 f fd ["book", "thing"] (ue K):=by
 refine F.ok hJ (fun vs H Q E h =>?_) (fun d9 A outer s H vs Q E hr h =>?_)
 ·obtain⟨l,p,B,zs,rfl,_⟩:=h
  rfl
 unfold ue at h
 refine ae.el h _ ?_
 clear h
 rintro l p B zs rfl hB gB hz q
 have hu:=gA hr
 have eZ:=hr.units
 have small:∀{n:Nat},n<=10000->n<sizeLine:=fun h=>Ue h (by decide)
 have Iv:=hz.le
 have DC:∀z∈zs,cW B z.2.1:=fun z h=>(hz.mem _).mp (J8 h)
 refine⟨_,(ah (cb (PW.pt (tV (kD (dc (aq (iR K) rfl T.n_isinstance (by rfl) (aa (pv 1) (aa (bJ rfl T.n_list (by rfl) (v := .ty "list") rfl) ag))))) (oK (kD (dc (aq (rD K rfl) rfl T.n_all (by rfl) (aa (bg rfl (aK (Nc:=["part"]) (Fc:=[]) (js:=[])) (gr K (pv 1)) (aA (i:=0) (n:=1) (by decide)) (fun _ _ _ _ _=>(ak (i:=0) (dN ["part"]) rfl (Or.inl rfl))) (fun _ _ _ _ _=>aX) (fun _ _ _ _ _=>(bb (pC.mono (by decide)) hr rfl (aa (pv 0) ag)))) ag))))))) (ao (aM ee)) ba)
  (ah (aL (i:=2) hJ.nd rfl (Or.inr rfl) (kY rfl (aK (Nc:=["lag", "rank"]) (Fc:=[]) (js:=[])) (gr K (pv 1)) (fD (aP (aA (i:=0) (n:=2) (by decide)) (aP (aA (i:=1) (n:=2) (by decide)) dH aF bh) aF (br aF bh))) (fun _ _ _ _ _=>(tupK K 2 rfl (aJ (ak (i:=0) (dN ["lag", "rank"]) rfl (Or.inl rfl)) (aJ (ak (i:=1) (dN ["lag", "rank"]) rfl (Or.inl rfl)) cB)))) (fun _ _ _ _ _=>aX) (fun _ _ _ _ _=>(pv 0)) (fun _ _ _ _ _=>(pv 1))))
  (ah (cb (PW.pt (tV (aI (oP K eZ) (aq mM rfl T.n_len (by rfl) (aa (pv 2) ag)) (aq (dE K) rfl T.n_len (by rfl) (aa (pv 1) ag)) (aH _)) (oK (kD (dc (aq (rD K rfl) rfl T.n_all (by rfl) (aa (bg rfl (aK (Nc:=["lag"]) (Fc:=["ranks"]) (js:=[2])) (gr K (bb (gY.mono (by decide)) hr rfl (aa (pv 0) ag))) (aA (i:=0) (n:=1) (by decide)) (fun _ _ _ _ _=>(ak (i:=0) (dN ["lag", "ranks"]) rfl (Or.inl rfl))) (fun _ _ _ _ _=>aX) (fun _ _ _ _ _=>(oN (kh hu (pv 0) (pv 1))))) ag))))))) (ao (aM ee)) ba)
  (ao (aM (aq (rD K rfl) rfl T.n_all (by rfl) (aa (Am (bg rfl (aK (Nc:=["lag"]) (Fc:=["book", "ranks"]) (js:=[0,2])) (qe (pv 2)) (aA (i:=0) (n:=1) (by decide)) (fun _ _ _ _ _=>(ak (i:=0) (dN ["lag", "book", "ranks"]) rfl (Or.inl rfl))) (fun _ _ _ _ _=>aX) (fun _ _ _ _ _=>(bb (zH.mono (by decide)) hr rfl (aa (pv 1) (aa (pv 2) (aa (pv 0) ag))))))) ag))))))),?_⟩
 refine⟨_,rfl,.inl ⟨_, "list",Bc zs,true,rfl,hz.den,rfl,_,rfl,bA ?_⟩⟩
 have HV:∀{i:Nat} (hi:i<zs.length),(zs.map fun z=>V.ref z.1)[i]? = some (.ref zs[i].1):=fun hi=>by rw[Jl,Jg hi];rfl
 refine⟨_,rfl,p,rfl,⟨_,aD.of hz.l⟩,?_⟩
 refine aV (N:=zs.length) (fun j ys H'=>H'=H/\ys=(Jp j true).map V.bl) ⟨rfl,rfl⟩ ?_ ?_
 ·rintro j ys H2 Ny hj ⟨rfl,rfl⟩ ny
  refine⟨⟨_,_,aD.of hz.l,HV hj⟩,small (by rw[Ja,Uk];omega),?_⟩
  rintro y H3 ⟨rfl,hy⟩
  have e:=hy _ (aD.of hz.l)
  rw[HV hj] at e;cases e
  have hm:=Jn hj
  have hl:=(DC _ hm).len gB
  refine gn ?_
  dsimp only[fP]
  rw[if_pos rfl]
  refine⟨_,rfl,zs[j],rfl,hz.t _ hm,uw gB (DC _ hm),hl.2,hl.1,ny _ _ ⟨rfl,?_⟩⟩
  rw[Y7,Jh];rfl
 rintro ys H2 ⟨rfl,rfl⟩
 have Ct:∀n,(Jp n true).all id=true:=fun n=>Y3.mpr fun b hb=>(List.mem_replicate.mp hb).2
 refine⟨⟨_,aD.of hz.l,by rw[Ja];exact Jf _⟩,fun p2 nW=>⟨p2,_,rfl,aD.of ar,?_⟩⟩
 rw[Ct]
 obtain⟨H3,n3⟩:∃H3,dM H2 p2 (.lst ((Jp zs.length true).map V.bl)) H3:=⟨_,nW,rfl⟩
 rw[<-n3.eq]
 refine⟨_,rfl,bA ?_⟩
 dsimp only[qF]
 have Ef:=hz.same n3.same
 refine bW (te:=kX _ _ _ _ _ _ _) (fun v H'=>∃d,v = .ref d/\dM H3 d (.dK (zs.map za)) H') (fun Qn qn =>?_) ?_
 ·refine⟨_,rfl,p,rfl,⟨_,aD.of Ef.l⟩,fun D hD =>?_⟩
  refine⟨fun i m H'=>m=zs.length-i/\i<=zs.length/\H'=upd H3 D (.dK ((zs.take i).map za)),⟨_,rfl,Us _,rfl⟩,?_⟩
  intro i m H4
  refine ae.go ?_
  rintro rfl hi rfl
  have sm:au H3 (upd H3 D (.dK ((zs.take i).map za))):=aQ hD _
  by_cases bN:i<zs.length
  ·refine .inr ⟨⟨_,_,aD.of (sm _ _ Ef.l),HV bN⟩,?_⟩
   rintro y H5 ⟨rfl,hy⟩
   have e:=hy _ (aD.of (sm _ _ Ef.l))
   rw[HV bN] at e;cases e
   refine⟨_,_,rfl,fw.of (sm _ _ (Ef.t _ (Jn bN))),rfl,_,_,rfl,_,_,rfl,rfl,?_⟩
   dsimp only[fP]
   rw[if_pos rfl]
   refine⟨_,rfl,_,rfl,(zs.take i).map za,.inr zs[i].2.1,ar,rfl,small (by rw[Ja,J6];omega),zs.length-(i+1),by omega,rfl,bN,?_⟩
   rw[cP _ (iX fun y hy e =>?_),zU,aG bN,Jh]
   ·rfl
   ·have h3:=U9.mp hz.nd
    obtain⟨j,hj,rfl⟩:=Yb.mp hy
    rw[J6] at hj
    rw[List.getElem_take] at e
    have e:zs[j].2.1=zs[i].2.1:=by injection e
    exact absurd (by rw[List.getElem_map,List.getElem_map];exact e) (Yc.mp h3 j i (by rw[Ja];omega) (by rw[Ja];omega) (by omega))
  ·have e:i=zs.length:=by omega
   subst e
   refine .inl ⟨⟨_,aD.of (sm _ _ Ef.l),by rw[Ja];exact Jf _⟩,?_⟩
   rw[J3];exact qn _ _ ⟨D,rfl,hD,rfl⟩
 intro v H4
 refine ae.go ?_
 rintro d rfl n4
 refine gn ?_
 have s4:=n3.same.trans n4.same
 have PR:=Ef.same n4.same
 have O2:=hB.same s4
 have nd:((zs.map za).map (·.1)).Nodup:=by
  have e:(zs.map za).map (·.1)=(zs.map (·.2.1)).map Sum.inr:=by rw[Ye,Ye];rfl
  rw[e]
  exact U9.mpr (List.pairwise_map.mpr ((U9.mp hz.nd).imp fun DK z=>DK (by injection z)))
 have val:∀r,cW B r->∃n:Nat,av (zs.map za) (.inr r)=some (.int n)/\Rk (fg B) (sg r) n:=fun r hr=>by
  obtain⟨z,hz',rfl⟩:=J0.mp ((hz.mem r).mpr hr)
  exact⟨z.2.2,o8 nd (J0.mpr ⟨z,hz',rfl⟩),hz.r z hz'⟩
 refine⟨_,rfl,d,_,rfl,n4.at,_,rfl,_,_,rfl,.inl ⟨_,aD.of PR.l,rfl⟩,.inl ⟨rfl,_,rfl,?_⟩⟩
 rw[Ja,Ja,decide_eq_true rfl]
 refine bA ⟨_,rfl,l,B,rfl,O2,gB,fun ts p5 H5 s5 hp50 qD nd5 tl5 mem5=>⟨p5,rfl,⟨_,aD.of qD⟩,?_⟩⟩
 have eE:∀{i:Nat} (hi:i<ts.length),(ts.map V.str)[i]? = some (.str ts[i]):=fun hi=>by rw[Jl,Jg hi];rfl
 have rA:=s5 _ _ n4.at
 refine aV (N:=ts.length) (fun j ys H'=>H'=H5/\ys=(Jp j true).map V.bl) ⟨rfl,rfl⟩ ?_ ?_
 ·rintro j ys H6 Ny hj ⟨rfl,rfl⟩ ny
  refine⟨⟨_,_,aD.of qD,eE hj⟩,small (by rw[Ja,Uk];omega),?_⟩
  rintro y H7 ⟨rfl,hy⟩
  have e:=hy _ (aD.of qD)
  rw[eE hj] at e;cases e
  obtain⟨n,hn,_⟩:=val _ ((mem5 _).mp (Jn hj))
  generalize ts[j]=r at hn
  have hg:=cK.k (k:=Sum.inr r) rA
  rw[hn] at hg
  refine gn ⟨_,rfl,_,rfl,d,_,rfl,hg,ny _ _ ⟨rfl,?_⟩⟩
  rw[Y7,Jh];rfl
 rintro ys H6 ⟨rfl,rfl⟩
 refine⟨⟨_,aD.of qD,by rw[Ja];exact Jf _⟩,fun p7 hp7=>⟨p7,_,rfl,aD.of ar,?_⟩⟩
 rw[Ct]
 obtain⟨H7,n7⟩:∃H7,dM H6 p7 (.lst ((Jp ts.length true).map V.bl)) H7:=⟨_,hp7,rfl⟩
 rw[<-n7.eq]
 refine⟨_,rfl,bA ?_⟩
 dsimp only[qF]
 have NK:=s5.trans n7.same
 have s7:=s4.trans NK
 have tG:=NK _ _ n4.at
 have kF:H2 d=none:=n3.back n4.nn
 refine⟨d,⟨_,tG⟩,?_⟩
 refine⟨_,rfl,d,_,rfl,tG,fun ob =>?_⟩
 obtain⟨H8,c8⟩:∃H8,jT H7 d (.frz ob (.dK (zs.map za))) H8:=⟨_,⟨rfl⟩⟩
 rw[<-c8.eq]
 have s8:au H2 H8:=fun b o e=>by rw[c8.ne (ai e kF)];exact s7 b o e
 refine aV (N:=zs.length) (fun j ys H'=>au H8 H'/\ys=(Jp j true).map V.bl) ⟨au.refl _,rfl⟩ ?_ ?_
 ·rintro j ys H9 Ny hj ⟨s9,rfl⟩ ny
  refine⟨⟨s9 _ _ c8.at,by rw[Ja];exact hj⟩,small (by rw[Ja,Uk];omega),?_⟩
  rintro y H10 ⟨rfl,kq,hkq,rfl⟩
  rw[Jl,Jg hj] at hkq
  cases hkq
  refine gn ?_
  dsimp only[fP]
  rw[if_pos rfl]
  refine⟨_,rfl,_,rfl,_,rfl,l,d,zs[j].2.1,B,zs.map za,rfl,hB.same (s8.trans s9),gB,.inr ⟨ob,s9 _ _ c8.at⟩,DC _ (Jn hj),val,fun qb s11=>ny _ _ ⟨s9.trans s11,?_⟩⟩
  rw[Y7,Jh];rfl
 rintro ys H9 ⟨s9,rfl⟩
 refine⟨⟨s9 _ _ c8.at,by rw[Ja];exact Jf _⟩,fun pA hpA =>?_⟩
 have PZ:upd H9 pA (.lst ((Jp zs.length true).map V.bl)) d=some (.frz ob (.dK (zs.map za))):=aQ hpA _ _ _ (s9 _ _ c8.at)
 refine⟨ob,_,PZ,?_⟩
 have pd:pA≠d:=fun z=>by rw[z,s9 _ _ c8.at] at hpA;cases hpA
 refine⟨pA,_,rfl,aD.of (by rw[aj pd];exact ar),?_⟩
 rw[Ct]
 refine q _ fun b o e =>?_
 rw[aj (ai e kF)]
 exact aQ hpA _ _ _ (s9 _ _ (s8 b o e))
end
def ur (K:Jc)(T:Addr)(pos:Pos):Sp:=fun vs H Q _=>fq fun(l:Addr) (B:List (Str×Str)) (ps:Array Value)=>vs=[.ref l]/\H l=some (.lst ((B.map (·.2)).map V.str))/\dB B/\H T=some (.tbl ps)/\Tab H pos lX ps/\(∀r,cW B r->En (fg B) (sg r)) /\
 ∀(zs:List Rz) (p:Addr) (pH:Array Value) (H':Hp),Kp T H H'->qW B H' p zs->H' T=some (.tbl pH)->Tab H' pos lX pH->Q (.ref p) H'
noncomputable def vf (v:Str->Nat):Sg->Nat:=fun s=>v (toS s)
structure RW (B:List (Str×Str))(R v:Str->Nat):Prop where
 le:∀x,cW B x->v x<=R x
 up:∀x,cW B x->v x=0∨∃a,nr (fg B) (vf v) (sg x) a/\v x<=a
 e:v "" = 0
theorem jx {B:List (Str×Str)}{x:Str}(hx:cW B x){c r:Sg}(hc:c∈fg B)(hl:Lt c (sg x) r):cW B (toS r):=by
 refine ae.el (ck.mp hc) _ ?_
 rintro q hq rfl
 exact hx.lt hq (gG.mpr (by rw[dF];exact hl))
theorem nr.mono {cs:List Sg}{f g:Sg->Nat}{x:Sg}(h:∀r,f r<=g r){a:Nat}(ha:nr cs f x a):∃b,nr cs g x b/\a<=b:=by
 rcases ha with ⟨h1,e⟩|⟨c,hc,r,hl,e⟩
 ·exact⟨1,.inl ⟨h1,rfl⟩,by omega⟩
 ·exact⟨g r+1,.inr ⟨c,hc,r,hl,rfl⟩,by have:=h r;omega⟩
noncomputable def iQ (v:Str->Nat)(x:Str)(m:Nat):Str->Nat:=fun y=>if y=x then m else v y
theorem RW.step {B:List (Str×Str)}{R v:Str->Nat}(hR:∀x,cW B x->Rk (fg B) (sg x) (R x))(h:RW B R v){x:Str}(hx:cW B x)(hZ:x ≠ ""){M:Nat}(hM:qA (nr (fg B) (vf v) (sg x)) M)(ne:M≠v x):v x<M/\M<=R x/\nr (fg B) (vf v) (sg x) M/\RW B R (iQ v x M):=by
 have h1:v x<=M:=by
  rcases h.up x hx with e|⟨a,ha,e⟩
  ·omega
  ·have:=hM.2 a ha;omega
 have hS:nr (fg B) (vf v) (sg x) M:=hM.1.resolve_left (by omega)
 have h2:M<=R x:=by
  have Ow:=hR x hx
  rcases hS with ⟨fR,e⟩|⟨c,hc,r,hl,e⟩
  ·cases Ow with
   | mk _ f _ _ t=>rw[e];exact t.2 1 (.inl ⟨fR,rfl⟩)
  ·have Ei:=jx hx hc hl
   have NA:=hR _ Ei
   rw[dF] at NA
   have:=Ow.lt NA hc hl
   have h3:=h.le _ Ei
   have e:M=v (toS r)+1:=e
   omega
 have mono:∀y,v y<=iQ v x M y:=fun y=>by unfold iQ;split; (rename_i e;rw[e];exact h1);exact Jf _
 refine⟨by omega,h2,hS,fun y hy =>?_,fun y hy =>?_,?_⟩
 ·unfold iQ;split
  ·rename_i e;rw[e];exact h2
  ·exact h.le y hy
 ·by_cases e:y=x
  ·refine ae.el (hS.mono (g:=vf (iQ v x M)) fun r=>mono _) _ ?_
   rintro b hb hle
   refine .inr ⟨b,by rw[e];exact hb,?_⟩
   unfold iQ;rw[if_pos e];exact hle
  ·have ev:iQ v x M y=v y:=if_neg e
   rw[ev]
   rcases h.up y hy with z|⟨a,ha,hle⟩
   ·exact .inl z
   ·refine ae.el (ha.mono (g:=vf (iQ v x M)) fun r=>mono _) _ ?_
    rintro b hb hle2
    exact .inr ⟨b,hb,by omega⟩
 ·unfold iQ;rw[if_neg (Ne.symm hZ)];exact h.e
noncomputable def gap (ts:List Str)(R v:Str->Nat):Nat:=(ts.map fun x=>R x-v x).sum
theorem xj {f g:Str->Nat}:∀{ts:List Str} {x:Str},(∀y,f y<=g y)->x∈ts->f x<g x->(ts.map f).sum<(ts.map g).sum
 | t::ts,x,h,hx,hl=>by
  rw[Uc,Uc,List.sum_cons,List.sum_cons]
  have le:∀l:List Str,(l.map f).sum<=(l.map g).sum:=fun l=>by
   induction l with
   | nil=>exact Jf _
   | cons a l ih=>rw[Uc,Uc,List.sum_cons,List.sum_cons];have:=h a;omega
  rcases J5.mp hx with e|hx
  ·have:=le ts;rw[<-e];omega
  ·have:=xj h hx hl;have:=h t;omega
theorem xO {ts:List Str}{R v:Str->Nat}{x:Str}{M:Nat}(hx:x∈ts)(h1:v x<M)(h2:M<=R x):gap ts R (iQ v x M)<gap ts R v:=by
 refine xj (fun y =>?_) hx ?_
 ·unfold iQ;split
  ·rename_i e;rw[e];omega
  ·exact Jf _
 ·unfold iQ;rw[if_pos rfl];omega
theorem CH {B:List (Str×Str)}{v:Str->Nat}(LD:∀x,cW B x->qA (nr (fg B) (vf v) (sg x)) (v x)){s:Sg}(h:En (fg B) s):∀x,cW B x->sg x=s->Rk (fg B) s (v x):=by
 induction h with
 | mk s h ih=>
  intro x hx e
  subst e
  refine .mk _ (vf v) _ (fun c hc r hl =>?_) (LD x hx)
  exact ih c hc r hl (toS r) (jx hx hc hl) (dF r)
theorem wg.one {a b r r':Str}(h:wg a b r)(h':wg a b r'):r=r':=by
 refine df ?_
 rcases h with h|h<;>rcases h' with h'|h'
 ·rw[h] at h';exact U0 h'
 ·have l1:=congrArg J9 h
  have l2:=congrArg J9 h'
  rw[Je] at l1 l2
  rw[J7 (show(sg r).length=0 by omega),J7 (show(sg r').length=0 by omega)]
 ·have l1:=congrArg J9 h
  have l2:=congrArg J9 h'
  rw[Je] at l1 l2
  rw[J7 (show(sg r).length=0 by omega),J7 (show(sg r').length=0 by omega)]
 ·rw[h] at h';exact U0 h'
structure DV (B:List (Str×Str))(kvs:List (Key×V))(v:Str->Nat):Prop where
 le:kvs.length<=300
 at':∀x,cW B x->av kvs (.inr x)=some (.int (v x:Nat))
 e:av kvs (.inr "")=some (.int 0)
theorem xf {x:Str}:∀(ts:List Str) (acc:List (Key×V)),(x∈ts∨av acc (.inr x)=some (.int 0))->av (dh acc (ts.map fun x=>(.inr x,.int 0))) (.inr x)=some (.int 0)
 | [],acc,h=>h.resolve_left fun z=>nomatch z
 | t::ts,acc,h=>by
  show av (dh (putK acc (.inr t) (.int 0)) (ts.map fun x=>(.inr x,.int 0))) (.inr x)=_
  refine xf ts _ ?_
  rw[cN]
  by_cases e:(Sum.inr x:Key) = .inr t
  ·rw[if_pos e];exact .inr rfl
  ·rw[if_neg e]
   rcases h with h|h
   ·rcases J5.mp h with z|z
    ·exact absurd (by rw[z]) e
    ·exact .inl z
   ·exact .inr h
theorem DV.put {B:List (Str×Str)}{kvs:List (Key×V)}{v:Str->Nat}(h:DV B kvs v){x:Str}(hx:cW B x)(hZ:x ≠ "")(M:Nat):DV B (putK kvs (.inr x) (.int (M:Nat))) (iQ v x M):=by
 refine⟨?_,fun y hy =>?_,?_⟩
 ·have:=congrArg J9 (yc (v:=V.int (M:Nat)) (h.at' x hx))
  rw[Ja,Ja] at this
  rw[this];exact h.le
 ·rw[cN]
  unfold iQ
  by_cases e:y=x
  ·rw[if_pos (by rw[e]),if_pos e]
  ·rw[if_neg (fun z=>e (by injection z)),if_neg e];exact h.at' y hy
 ·rw[cN,if_neg (fun z=>hZ (by injection z with z;exact z.symm))];exact h.e
section
variable {P:Program}{w:World}{K:Jc}{mg:Str->Option Value}{base:Heap}{f T0:Addr}{fd:FuncData}
theorem bK:aN ["_law_codes", "_law_lags_here", "_law_ranks_here", "_law_changed", "_law_lag", "_law_some"] ["_law_codes"] (aB (top gS)):=⟨rfl,rfl,rfl,by decide +kernel,rfl,by decide +kernel,by decide +kernel⟩
theorem CD (F:cY K "_law_ranks" "_law_ranks" (top gS) f fd)(T:Nm mg)(qY:mg "dict" = none)(sI:Fn P w K mg base 5 "_law_lags" ["_law_codes"] (nV K T0 (fU dX)))(iA:Fn P w K mg base 1 "_law_left" ["_law_one", "_law_other"] oV):bI P w K mg base fY 6 f fd ["_law_codes"] (ur K T0 (fU dX)):=by
 refine F.ok bK (fun vs H Q E h =>?_) (fun d9 A outer s H vs Q E hr h =>?_)
 ·obtain⟨l,B,ps,rfl,_⟩:=h
  rfl
 unfold ur at h
 refine ae.el h _ ?_
 clear h
 rintro l B ps rfl hl gB hT tab hEn q
 have hu:=gA hr
 have eZ:=hr.units
 have hle:=gB.le
 have small:∀{n:Nat},n<=10000->n<sizeLine:=fun h=>Ue h (by decide)
 have Kc:((B.map (·.2)).map V.str).length=B.length:=by rw[Ja,Ja]
 have D4:∀{i:Nat} (hi:i<B.length),((B.map (·.2)).map V.str)[i]? = some (.str B[i].2):=fun hi=>by rw[Jl,Jl,Jg hi];rfl
 have hZ:∀{x:Str},cW B x->x ≠ "":=fun hx e=>by
  have:=(hx.len gB).2
  rw[e] at this;exact absurd this (by decide)
 refine⟨_,(ah (aL (i:=1) bK.nd rfl (Or.inl rfl) (bb (sI.mono (by decide)) hr rfl (aa (pv 0) ag)))
  (ah (aL (i:=2) bK.nd rfl (Or.inr rfl) (eI (EM K rfl) rfl qY (by rfl) (aa (bg rfl (aK (Nc:=["_law_lag"]) (Fc:=[]) (js:=[])) (gr K (pv 1)) (aA (i:=0) (n:=1) (by decide)) (fun _ _ _ _ _=>(ak (i:=0) (dN ["_law_lag"]) rfl (Or.inl rfl))) (fun _ _ _ _ _=>aX) (fun _ _ _ _ _=>(fA (aa (pv 0) (aa aw ag))))) ag)))
  (ah (fv hu (pv 2) bf aw rfl)
  (ah (aL (i:=3) bK.nd rfl (Or.inl rfl) ee)
  (ah (fJ PassesOwn.never (dc (pv 3)) (ah (aL (i:=3) bK.nd rfl (Or.inl rfl) ee)
  (ao (eY PassesOwn.never rfl (gr K (pv 1)) (ak (i:=4) bK.nd rfl (Or.inr rfl)) (ah (bz (i:=5) bK.nd rfl (Or.inl rfl) rfl (aK (Nc:=["_law_left_here"]) (Fc:=["_law_ranks_here"]) (js:=[2])) (gr K (bg rfl (aK (Nc:=["_law_code"]) (Fc:=["_law_lag"]) (js:=[4])) (gr K (pv 0)) (aA (i:=0) (n:=1) (by decide)) (fun _ _ _ _ _=>(ak (i:=0) (dN ["_law_code", "_law_lag"]) rfl (Or.inl rfl))) (fun _ _ _ _ _=>aX) (fun _ _ _ _ _=>(bb (iA.mono (by decide)) hr rfl (aa (pv 1) (aa (pv 0) ag)))))) (aA (i:=0) (n:=1) (by decide)) (fun _ _ _ _ _=>(ak (i:=0) (dN ["_law_left_here", "_law_ranks_here"]) rfl (Or.inl rfl))) (fun _ _ _ _ _=>(dI (aI ig (pv 0) d7 (aH _)))) (fun _ _ _ _ _=>(bj fz (bL hu (pv 1) (pv 0) (fun _ _=>rfl)) aw)))
  (ao (cb (aI (oP K eZ) (aq (B4 K rfl) rfl T.n_max (by rfl) (aa (bj fz (eS (aa aw ag)) (pv 5)) ag)) (bL hu (pv 2) (pv 4) (fun _ _=>rfl)) (aH _)) (ah (fv hu (pv 2) (pv 4) (aq (B4 K rfl) rfl T.n_max (by rfl) (aa (pv 5) ag)) rfl)
  (ao (aL (i:=3) bK.nd rfl (Or.inl rfl) ee))) ba)))))))
  (ao (aM (bg rfl (aK (Nc:=["_law_lag"]) (Fc:=["_law_ranks_here"]) (js:=[2])) (gr K (pv 1)) (aA (i:=0) (n:=1) (by decide)) (fun _ _ _ _ _=>(ak (i:=0) (dN ["_law_lag", "_law_ranks_here"]) rfl (Or.inl rfl))) (fun _ _ _ _ _=>aX) (fun _ _ _ _ _=>(fA (aa (pv 0) (aa (bL hu (pv 1) (pv 0) (fun _ _=>rfl)) ag)))))))))))),?_⟩
 refine⟨_,rfl,l,B,ps,rfl,aD.of hl,gB,hT,tab,fun ts p1 ps1 H1 k1 hp10 pF Bp tab1 nd tl mem pw=>gn ?_⟩
 have eE:∀{i:Nat} (hi:i<ts.length),(ts.map V.str)[i]? = some (.str ts[i]):=fun hi=>by rw[Jl,Jg hi];rfl
 have tX:H1 l=some (.lst ((B.map (·.2)).map V.str)):=k1 l _ (fun z=>by rw[z,hT] at hl;cases hl) hl
 dsimp only
 refine bW (te:=Iq _ _) (fun v H'=>bO fun(dd:Addr) (kvs:List (Key×V))=>v = .ref dd/\au H1 H'/\H1 dd=none/\H' dd=some (.dK kvs)/\kvs.length<=200/\∀x∈ts,av kvs (.inr x)=some (.int 0)) (fun Qn qn =>?_) ?_
 ·refine⟨_,rfl,p1,rfl,⟨_,aD.of pF⟩,?_⟩
  refine aV (N:=ts.length) (fun i ys H'=>∃as:List Addr,ys=as.map V.ref/\au H1 H'/\as.length=i/\∀(j:Nat) (b:Addr) (x:Str),as[j]? = some b->ts[j]? = some x->H' b=some (.tup [.str x,.int 0])) ⟨[],rfl,au.refl _,rfl,fun j b x h=>nomatch h⟩ ?_ ?_
  ·intro i ys H2 Ny hi hz_ ny
   refine ae.el hz_ _ ?_
   clear hz_
   rintro as rfl s2 al ha
   refine⟨⟨_,_,aD.of (s2 _ _ pF),eE hi⟩,small (by rw[Ja];omega),?_⟩
   rintro v H3 ⟨rfl,hv⟩
   have e:=hv _ (aD.of (s2 _ _ pF))
   rw[eE hi] at e;cases e
   refine gn ?_
   dsimp only[fP]
   rw[if_pos rfl]
   refine⟨_,rfl,by show 2<=sizeLine;decide,fun t H4 n4=>ny _ _ ⟨as++[t],by rw[Jh];rfl,s2.trans n4.same,by rw[Je,al];rfl,fun j b x h1 h2 =>?_⟩⟩
   by_cases hj:j<i
   ·rw[Ul (by omega)] at h1
    exact n4.same _ _ (ha j b x h1 h2)
   ·rw[Ud (by omega),al] at h1
    have e0:j-i=0:=by
     cases hz:j-i with
     | zero=>rfl
     | succ k=>rw[hz] at h1;cases h1
    have ej:j=i:=by omega
    subst ej
    rw[e0] at h1
    cases h1
    rw[Jg hi] at h2
    cases h2
    exact n4.at
  ·intro ys H2
   refine ae.go ?_
   rintro as rfl s2 al ha
   refine⟨⟨_,aD.of (s2 _ _ pF),by rw[Ja];exact Jf _⟩,fun p hp =>?_⟩
   obtain⟨H3,n3⟩:∃H3,dM H2 p (.lst (as.map V.ref)) H3:=⟨_,hp,rfl⟩
   rw[<-n3.eq]
   have s3:=s2.trans n3.same
   refine⟨p,as,ts.map (fun x=>(.inr x,.int 0)),rfl,aD.of n3.at,by rw[Ja];exact al,by rw[Ja];omega,fun j b kv h1 h2 =>?_,fun dd H4 n4=>qn _ _ ⟨dd,_,rfl,s3.trans n4.same,?_,n4.at,?_,fun x hx=>xf ts [] (.inl hx)⟩⟩
   ·rw[Jl] at h2
    refine ae.el (Option.map_eq_some_iff.mp h2) _ ?_
    rintro x hx rfl
    exact fw.of (n3.same _ _ (ha j b x h1 hx))
   ·cases e:H1 dd with
    | none=>rfl
    | some o=>have:=n4.nn;rw[s3 _ _ e] at this;cases this
   ·have:=cQ (ts.map fun x=>((Sum.inr x:Key),V.int 0)) []
    rw[Ja,Yr] at this
    omega
 intro v H2
 refine ae.go ?_
 rintro dd kvs0 rfl s2 hdd0 hdd2 kl0 kz0
 refine gn ?_
 refine⟨_,rfl,dd,_,rfl,gq.k (k:=Sum.inr (Str.ofString "")) hdd2 (small (by omega)),?_⟩
 obtain⟨H3,c3⟩:∃H3,jT H2 dd (.dK (putK kvs0 (.inr (Str.ofString "")) (.int 0))) H3:=⟨_,⟨rfl⟩⟩
 rw[<-c3.eq]
 have NI:DV B (putK kvs0 (.inr (Str.ofString "")) (.int 0)) (fun _=>0):=by
  refine⟨by have:=cV kvs0 (.inr (Str.ofString "")) (V.int 0);omega,fun x hx =>?_,by rw[cN,if_pos rfl]⟩
  rw[cN,if_neg (fun z=>hZ hx (by injection z))]
  exact kz0 x ((mem x).mpr hx)
 have k3:∀b o,b≠dd->H2 b=some o->H3 b=some o:=fun b o hb e=>by rw[c3.ne hb];exact e
 have GA:=c3.at
 generalize putK kvs0 (.inr (Str.ofString "")) (V.int 0)=kvs1 at NI GA
 obtain⟨R,hR⟩:∃R:Str->Nat,∀x,cW B x->Rk (fg B) (sg x) (R x):=by
  refine⟨fun x=>open Classical in if h:∃n,Rk (fg B) (sg x) n then h.choose else 0,fun x hx =>?_⟩
  have h:=Rk.ex (hEn x hx)
  dsimp only;rw[dif_pos h];exact h.choose_spec
 have Oh:l≠dd:=ai tX hdd0
 have Hb:p1≠dd:=ai pF hdd0
 have N9:T0≠dd:=ai Bp hdd0
 have hW:=k3 _ _ Oh (s2 _ _ tX)
 have we:=k3 _ _ Hb (s2 _ _ pF)
 dsimp only
 refine bW (te:=tC _) (fun v H'=>v = .bl true/\H3=H') (fun Qn qn=>qn _ _ ⟨rfl,rfl⟩) ?_
 rintro _ _ ⟨rfl,rfl⟩
 refine gn ?_
 show uQ _ _ _ ([some (.ref l),some (.ref p1),some (.ref dd),some (.bl true),none,none]:L2.St) _
 have Q5:RW B R (fun _=>0):=⟨fun x _=>Us _,fun x _ =>.inl rfl,rfl⟩
 let J:Nat->L2.St->Hp->Prop:=fun m σ H'=>lU fun(ch:Bool) (v:Str->Nat) (kvs:List (Key×V)) (x4:Option V)=>∃x5:Option V,σ=[some (.ref l),some (.ref p1),some (.ref dd),some (.bl ch),x4,x5]/\m=gap ts R v+(if ch=true then 1 else 0)/\(∀b o,b≠dd->H3 b=some o->H' b=some o)/\H' dd=some (.dK kvs)/\DV B kvs v/\RW B R v/\(ch=false->∀x,cW B x->qA (nr (fg B) (vf v) (sg x)) (v x))
 refine cz (t:=gL _ _) (fun σ H'=>bO fun(v:Str->Nat) (kvs:List (Key×V))=>∃x4 x5:Option V,σ=[some (.ref l),some (.ref p1),some (.ref dd),some (.bl false),x4,x5]/\(∀b o,b≠dd->H3 b=some o->H' b=some o)/\H' dd=some (.dK kvs)/\DV B kvs v/\∀x,cW B x->qA (nr (fg B) (vf v) (sg x)) (v x)) (fun Nx nx =>?_) ?_
 ·refine ie J ⟨_,true,fun _=>0,kvs1,none,none,rfl,rfl,(fun b o _ e=>e),GA,NI,Q5,(fun h=>nomatch h)⟩ ?_
  intro m σ H4
  refine ae.go ?_
  rintro ch v kvs x4 x5 rfl rfl k4 hdd4 dv rw4 fix4
  cases ch with
  | false=>exact⟨_,rfl,_,rfl,bA (nx _ _ ⟨v,kvs,x4,x5,rfl,k4,hdd4,dv,fix4 rfl⟩)⟩
  | true=>
   refine⟨_,rfl,_,rfl,cj ⟨fun σ' H'=>∃m',m'<gap ts R v+1/\J m' σ' H',fun _ _ h=>h,?_⟩⟩
   refine bW (te:=tC _) (fun v H'=>v = .bl false/\H4=H') (fun Qn qn=>qn _ _ ⟨rfl,rfl⟩) ?_
   rintro _ _ ⟨rfl,rfl⟩
   refine gn ?_
   show nO _ _ _ _ ([some (.ref l),some (.ref p1),some (.ref dd),some (.bl false),x4,x5]:L2.St) _
   refine⟨_,rfl,p1,rfl,⟨_,aD.of (k4 _ _ Hb we)⟩,?_⟩
   refine fQ (N:=ts.length) (fun i σ H'=>lU fun(ch:Bool) (v':Str->Nat) (kvs:List (Key×V)) (x4:Option V)=>∃x5:Option V,σ=[some (.ref l),some (.ref p1),some (.ref dd),some (.bl ch),x4,x5]/\(∀b o,b≠dd->H3 b=some o->H' b=some o)/\H' dd=some (.dK kvs)/\DV B kvs v'/\RW B R v'/\gap ts R v'+(if ch=true then 1 else 0)<=gap ts R v/\(ch=false->∀x∈ts.take i,qA (nr (fg B) (vf v') (sg x)) (v' x))) ⟨false,v,kvs,_,_,rfl,k4,hdd4,dv,rw4,Jf _,fun _ x hx=>nomatch hx⟩ ?_ ?_
   ·intro i σ H5 hi
    refine ae.go ?_
    clear x4 x5
    rintro ch v' bH x4 x5 rfl k5 hdd5 dv5 rw5 gp fix5
    have qD:=k5 _ _ Hb we
    have qO:=k5 _ _ Oh hW
    refine⟨⟨_,_,aD.of qD,eE hi⟩,?_⟩
    rintro y H6 ⟨rfl,hy⟩
    have e:=hy _ (aD.of qD)
    rw[eE hi] at e;cases e
    have DI:=Jn hi
    have eh:=(mem _).mp DI
    have cD:=aG hi
    generalize ts[i]=x at DI eh cD
    have Bl:=eh.len gB
    refine gn ?_
    show uQ _ _ _ ([some (.ref l),some (.ref p1),some (.ref dd),some (.bl ch),some (.str x),x5]:L2.St) _
    refine bW (te:=eO _ _ _ _ _ _) (fun v H'=>bO fun(sp:Addr) (ns:List Nat)=>v = .ref sp/\au H6 H'/\H' sp=some (.lst (nI ns))/\ns.length<=16/\∀a,a∈ns↔nr (fg B) (vf v') (sg x) a) (fun Qn qn =>?_) ?_
    ·refine⟨_,rfl,l,rfl,⟨_,aD.of qO⟩,?_⟩
     refine aV (N:=B.length) (fun k ys H'=>au H6 H'/\ys.length=k/\∀(j:Nat) (u:V),ys[j]? = some u->∃q,B[j]? = some q/\((u = .non/\∀r,¬wg x q.2 r)∨∃r,u = .str r/\wg x q.2 r)) ⟨au.refl _,rfl,fun j u h=>nomatch h⟩ ?_ ?_
     ·rintro k ys H7 Ny hk ⟨s7,yl,ym⟩ ny
      refine⟨⟨_,_,aD.of (s7 _ _ qO),D4 hk⟩,small (by omega),?_⟩
      rintro u H8 ⟨rfl,hv⟩
      have e:=hv _ (aD.of (s7 _ _ qO))
      rw[D4 hk] at e;cases e
      have NG:B[k]? = some B[k]:=Jg hk
      have hc:=(gB.cd _ (Jn hk)).le
      generalize B[k]=z at NG hc
      refine gn ?_
      dsimp only[fP]
      rw[if_pos rfl]
      refine⟨_,rfl,_,rfl,x,z.2,rfl,by omega,by omega,fun u H9 s9 hu'=>ny _ _ ⟨s7.trans s9,by rw[Je,yl];rfl,fun j u' h =>?_⟩⟩
      by_cases hj:j<k
      ·rw[Ul (by omega)] at h
       exact ym j u' h
      ·rw[Ud (by omega),yl] at h
       have e0:j-k=0:=by
        cases hz:j-k with
        | zero=>rfl
        | succ n=>rw[hz] at h;cases h
       have ej:j=k:=by omega
       subst ej
       rw[e0] at h
       cases h
       exact⟨z,NG,hu'⟩
     rintro ys H7 ⟨s7,yl,ym⟩
     refine⟨⟨_,aD.of (s7 _ _ qO),by omega⟩,fun lp hlp =>?_⟩
     obtain⟨H8,n8⟩:∃H8,dM H7 lp (.lst ys) H8:=⟨_,hlp,rfl⟩
     rw[<-n8.eq]
     have s8:=s7.trans n8.same
     have Ml:=s8 _ _ hdd5
     refine⟨lp,rfl,⟨_,aD.of n8.at⟩,?_⟩
     refine aV (N:=ys.length) (fun k out H'=>H'=H8/\∃ns:List Nat,out=nI ns/\ns.length<=k/\∀a,a∈ns ↔ ∃q∈B.take k,∃r,wg x q.2 r/\a=v' r+1) ⟨rfl,[],rfl,Jf _,fun a=>⟨(fun h=>nomatch h),fun⟨q,hq,_⟩=>nomatch hq⟩⟩ ?_ ?_
     ·intro k out H9 Ny hk hz_ ny
      refine ae.el hz_ _ ?_
      clear hz_
      rintro rfl ns rfl nl nm
      have Bk:ys[k]? = some ys[k]:=Jg hk
      refine ae.el (ym k _ Bk) _ ?_
      rintro z hz hzu
      have LB:k<B.length:=(Jy.mp hz).1
      have Ck:=aG LB
      rw[Jg LB] at hz
      have hz:=Option.some.inj hz
      have xk:z∈B:=by rw[<-hz];exact Jn LB
      rw[hz] at Ck
      generalize ys[k]=u at Bk hzu
      refine⟨⟨_,_,aD.of n8.at,Bk⟩,small (by unfold nI;rw[Ja];omega),?_⟩
      rintro y H10 ⟨rfl,hy⟩
      have e:=hy _ (aD.of n8.at)
      rw[Bk] at e;cases e
      refine gn ?_
      rcases hzu with ⟨rfl,sT⟩|⟨r,rfl,jP⟩
      ·refine⟨_,rfl,.inl ⟨rfl,_,rfl,bA (ny _ _ ⟨rfl,ns,rfl,by omega,fun a =>?_⟩)⟩⟩
       rw[nm,Ck]
       refine⟨fun⟨q,hq,h⟩=>⟨q,Jx _ hq,h⟩,fun⟨q,hq,r,h1,h2⟩=>?_⟩
       rcases Ji.mp hq with hq|hq
       ·exact⟨q,hq,r,h1,h2⟩
       ·rw[Jd.mp hq] at h1;exact absurd h1 (sT r)
      ·have JM:av bH (.inr r)=some (.int (v' r:Nat)):=by
        by_cases er:r = ""
        ·rw[er]
         have:=dv5.e
         rw[rw5.e];exact this
        ·refine dv5.at' r (eh.lt xk (gG.mpr ⟨fun z=>er (ox.mp z),?_⟩))
         exact jP
       have hg:=cK.k (k:=Sum.inr r) Ml
       rw[JM] at hg
       refine⟨_,rfl,.inl ⟨rfl,_,rfl,cj ⟨_,rfl,_,rfl,dd,_,rfl,hg,.inl ⟨_,_,rfl,rfl,ny _ _ ⟨rfl,ns++[v' r+1],?_,by rw[Je];exact Wc nl,fun a =>?_⟩⟩⟩⟩⟩
       ·unfold nI;rw[Jh];rfl
       ·rw[Ji,Jd,nm,Ck]
        refine⟨fun h =>?_,fun⟨q,hq,r',h1,h2⟩=>?_⟩
        ·rcases h with ⟨q,hq,h⟩|h
         ·exact⟨q,Jx _ hq,h⟩
         ·exact⟨z,Jj _ (Jd.mpr rfl),r,jP,h⟩
        ·rcases Ji.mp hq with hq|hq
         ·exact .inl ⟨q,hq,r',h1,h2⟩
         ·rw[Jd.mp hq] at h1
          rw[h1.one jP] at h2
          exact .inr h2
     ·intro out H9
      refine ae.go ?_
      rintro rfl ns rfl nl nm
      rw[yl,J3] at nm
      refine⟨⟨_,aD.of n8.at,Jf _⟩,fun sp rK=>qn _ _ ⟨sp,ns,rfl,s8.trans (aQ rK _),ar,by omega,fun a =>?_⟩⟩
      rw[nm]
      refine⟨fun⟨q,hq,r,h1,h2⟩=>?_,fun h =>?_⟩
      ·by_cases er:sg r=[]
       ·refine .inl ⟨ck.mpr ⟨q,hq,?_⟩,?_⟩
        ·rcases h1 with h1|h1
         ·rw[h1,er,Uo]
         ·rw[h1,er,Uo]
        ·rw[h2,ox.mp er,rw5.e]
       ·exact .inr ⟨sg q.2,ck.mpr ⟨q,hq,rfl⟩,sg r,⟨er,h1⟩,by unfold vf;rw[rL];exact h2⟩
      ·rcases h with ⟨fR,e⟩|⟨c,hc,r,iK,e⟩
       ·refine ae.el (ck.mp fR) _ ?_
        rintro q hq eq
        exact⟨q,hq, "",.inl (by rw[eq];exact(Uo _).symm),by rw[rw5.e];exact e⟩
       ·refine ae.el (ck.mp hc) _ ?_
        rintro q hq rfl
        exact⟨q,hq,toS r,by unfold wg;rw[dF];exact iK.2,e⟩
    intro u H7
    refine ae.go ?_
    rintro sp ns rfl s7 rK nl nm
    refine gn ?_
    have AA:=s7 _ _ hdd5
    have Mf:=cK.k (k:=Sum.inr x) AA
    rw[dv5.at' x eh] at Mf
    have k7:∀b o,b≠dd->H3 b=some o->H7 b=some o:=fun b o hb e=>s7 _ _ (k5 b o hb e)
    have ei:∀l:List Nat,nI l=(l.map fun n:Nat=>(n:Int)).map V.int:=fun l=>by unfold nI;rw[Ye];rfl
    refine⟨by show 1<=sizeLine;decide,fun z8 H8 n8=>⟨_,rfl,.inr (.inr ⟨z8,sp,_,_,rfl,rfl,n8.at,n8.same _ _ rK,?_,fun z9 H9 n9 =>?_⟩)⟩⟩
    ·unfold nI;rw[Ja];exact Uy (small (by show 1+_<=_;omega))
    have E7:=n8.same.trans n9.same
    have h9:H9 z9=some (.lst (((0::ns).map fun n:Nat=>(n:Int)).map V.int)):=by rw[n9.at,<-ei];rfl
    refine⟨z9,_,rfl,aD.of h9,(fun z=>nomatch z),fun M hM hmx =>?_⟩
    refine ae.el (J0.mp hM) _ ?_
    rintro m0 hm0 rfl
    have JN:qA (nr (fg B) (vf v') (sg x)) m0:=by
     refine⟨?_,fun a ha =>?_⟩
     ·rcases J5.mp hm0 with e|h
      ·exact .inl e
      ·exact .inr ((nm m0).mp h)
     ·have:=hmx _ (J8 (Jq _ ((nm a).mpr ha)))
      omega
    have OY:cK H9 dd (.str x) (some (.int (v' x:Nat))):=by
     have:=cK.k (k:=Sum.inr x) (E7 _ _ AA)
     rw[dv5.at' x eh] at this
     exact this
    have k9:∀b o,b≠dd->H3 b=some o->H9 b=some o:=fun b o hb e=>E7 _ _ (k7 b o hb e)
    refine⟨_,rfl,_,rfl,dd,_,rfl,OY,.inl ⟨rfl,_,rfl,?_⟩⟩
    by_cases heq:m0=v' x
    ·rw[decide_eq_true (by rw[heq])]
     refine bA ⟨ch,v',bH,_,_,rfl,k9,E7 _ _ AA,dv5,rw5,gp,fun mw y hy =>?_⟩
     rw[cD] at hy
     rcases Ji.mp hy with hy|hy
     ·exact fix5 mw y hy
     ·rw[Jd.mp hy,<-heq];exact JN
    ·rw[decide_eq_false (fun z=>heq (by injection z with z;omega))]
     refine ae.el (rw5.step hR eh (hZ eh) JN heq) _ ?_
     rintro bN hle2 hS oU
     have tW:ns≠[]:=fun z=>by have:=(nm m0).mpr hS;rw[z] at this;cases this
     have zM:=E7 _ _ rK
     rw[ei] at zM
     refine cj ⟨_,rfl,sp,_,rfl,aD.of zM,fun z=>tW (List.map_eq_nil_iff.mp z),fun M' hM' hmx' =>?_⟩
     refine ae.el (J0.mp hM') _ ?_
     rintro m1 hm1 rfl
     have em:m1=m0:=by
      have h1:=hmx' _ (J8 ((nm m0).mpr hS))
      have h2:=JN.2 m1 ((nm m1).mp hm1)
      omega
     subst em
     refine⟨_,rfl,_,rfl,dd,_,rfl,gq.k (k:=Sum.inr x) (E7 _ _ AA) (small (by have:=dv5.le;omega)),?_⟩
     refine⟨true,iQ v' x m1,_,_,_,rfl,fun b o hb e=>by rw[aj hb];exact k9 b o hb e,ar,dv5.put eh (hZ eh) m1,oU,?_,(fun h=>nomatch h)⟩
     have:=xO (R:=R) DI bN hle2
     show _+1<=_
     omega
   ·intro σ H5
    refine ae.go ?_
    clear x4 x5
    rintro ch v' bH x4 x5 rfl k5 hdd5 dv5 rw5 gp fix5
    rw[J3] at fix5
    refine⟨⟨_,aD.of (k5 _ _ Hb we),by rw[Ja];exact Jf _⟩,gap ts R v'+(if ch=true then 1 else 0),by omega,ch,v',bH,x4,x5,rfl,rfl,k5,hdd5,dv5,rw5,fun mw x hx=>fix5 mw x ((mem x).mpr hx)⟩
 intro σ H4
 refine ae.go ?_
 rintro v kvs x4 x5 rfl k4 hdd4 dv fix4
 have sv:=k4 _ _ Hb we
 refine⟨_,rfl,p1,rfl,⟨_,aD.of sv⟩,?_⟩
 refine aV (N:=ts.length) (fun i ys H'=>∃zs:List Rz,ys=zs.map (fun z=>V.ref z.1)/\au H4 H'/\zs.map (·.2.1)=ts.take i/\(∀z∈zs,pz H' z)/\∀z∈zs,Rk (fg B) (sg z.2.1) z.2.2) ⟨[],rfl,au.refl _,rfl,(fun z h=>nomatch h),fun z h=>nomatch h⟩ ?_ ?_
 ·intro i ys H6 Ny hi hz_ ny
  refine ae.el hz_ _ ?_
  clear hz_
  rintro zs rfl s6 ez hz hrk
  have zl:zs.length<=i:=by
   have:=congrArg J9 ez
   rw[Ja,J6] at this
   omega
  refine⟨⟨_,_,aD.of (s6 _ _ sv),eE hi⟩,small (by rw[Ja];omega),?_⟩
  rintro u H7 ⟨rfl,hv⟩
  have e:=hv _ (aD.of (s6 _ _ sv))
  rw[eE hi] at e;cases e
  have eh:=(mem _).mp (Jn hi)
  have cD:=aG hi
  generalize ts[i]=x at eh cD
  have jz:=cK.k (k:=Sum.inr x) (s6 _ _ hdd4)
  rw[dv.at' x eh] at jz
  refine gn ?_
  dsimp only[fP]
  rw[if_pos rfl]
  refine⟨_,rfl,_,rfl,_,rfl,dd,_,rfl,jz,by show 2<=sizeLine;decide,fun t H8 n8=>ny _ _ ⟨zs++[(t,x,v x)],by rw[Jh];rfl,s6.trans n8.same,by rw[Jh,ez,cD];rfl,fun z hz' =>?_,fun z hz' =>?_⟩⟩
  ·rcases Ji.mp hz' with hz'|hz'
   ·exact(hz z hz').same n8.same
   ·rw[Jd.mp hz'];exact n8.at
  ·rcases Ji.mp hz' with hz'|hz'
   ·exact hrk z hz'
   ·rw[Jd.mp hz'];exact CH fix4 (hEn x eh) x eh rfl
 ·intro ys H6
  refine ae.go ?_
  rintro zs rfl s6 ez hz hrk
  rw[J3] at ez
  have kp:∀(H':Hp),au H6 H'->Kp T0 H H':=fun H' sm b o hb e=>sm _ _ (s6 _ _ (k4 b o (ai (k1 b o hb e) hdd0) (k3 b o (ai (k1 b o hb e) hdd0) (s2 _ _ (k1 b o hb e)))))
  have QR:∀{c:Addr},oX H1 lX c->oX H6 lX c:=fun⟨o,vs,t,h1,h2⟩=>⟨o,vs,t,s6 _ _ (k4 _ _ (ai h1 hdd0) (k3 _ _ (ai h1 hdd0) (s2 _ _ h1))),h2⟩
  have L5:Tab H6 (fU dX) lX ps1:=tab1.imp id fun⟨c,e,h⟩=>⟨c,e,QR h⟩
  have Qb:H6 T0=some (.tbl ps1):=s6 _ _ (k4 _ _ N9 (k3 _ _ N9 (s2 _ _ Bp)))
  refine⟨⟨_,aD.of (s6 _ _ sv),by rw[Ja];exact Jf _⟩,fun p hp=>q zs p ps1 _ (kp _ (aQ hp _)) ⟨ar,fun z hz'=>(hz z hz').same (aQ hp _),hrk,by rw[ez];exact nd,by rw[ez];exact mem,by rw[ez];exact pw,?_⟩ (aQ hp _ _ _ Qb) (fe L5 (aQ hp _))⟩
  have:=congrArg J9 ez
  rw[Ja] at this
  omega
end
theorem ve {B:List (Str×Str)}(g:dB B):mY (B.map (·.2)):=⟨by rw[Ja];exact g.le,fun c hc=>by
 refine ae.el (J0.mp hc) _ ?_
 rintro q hq rfl
 exact g.cd q hq⟩
theorem CV {B:List (Str×Str)}(g:dB B):∀c∈fg B,c≠[]:=fun c hc e=>by
 refine ae.el (ck.mp hc) _ ?_
 rintro q hq rfl
 have:=(g.cd q hq).pos
 have e2:q.2.length=(sg q.2).length:=str_len _
 rw[e] at e2;simp at e2;omega
theorem uD {B:List (Str×Str)}{k:Nat}{d:Sg}(h1:1<=k)(h2:k<d.length)(hd:d∈fg B):cW B (toS (d.drop k)):=by
 refine ae.el (ck.mp hd) _ ?_
 rintro q hq rfl
 exact⟨q,hq,k,h1,h2,dF _⟩
theorem wZ {S:Nat->Prop}:∀(M:Nat),(∀a,S a->a<=M)->∃v,jg S v
 | 0,h=>by
  by_cases c:S 0
  ·exact⟨some 0,.inr ⟨0,rfl,c,h⟩⟩
  ·exact⟨none,.inl ⟨rfl,fun a ha=>c (by have:=h a ha;rw[show(0:Nat)=a by omega];exact ha)⟩⟩
 | M+1,h=>by
  by_cases c:S (M+1)
  ·exact⟨some (M+1),.inr ⟨M+1,rfl,c,h⟩⟩
  ·exact wZ M fun a ha=>by
    have:=h a ha
    have:a≠M+1:=fun z=>c (z▸ha)
    omega
theorem Dl.ex {cs:List Sg}{x:Sg}(h:En cs x):∃o,Dl cs x o:=by
 induction h with
 | mk x h ih=>
  obtain⟨f,hf⟩:∃f:Sg->Option Nat,∀c∈cs,∀r,Lt c x r->Dl cs r (f r):=by
   refine⟨fun r=>open Classical in if hr:∃n,Dl cs r n then hr.choose else none,fun c hc r hl =>?_⟩
   have hr:=ih c hc r hl
   dsimp only;rw[dif_pos hr];exact hr.choose_spec
  have bd:∀l:List Sg,∃M,∀c∈l,∀r d,Lt c x r->f r=some d->min x.length c.length+d<=M:=fun l=>by
   induction l with
   | nil=>exact⟨0,fun c hc=>nomatch hc⟩
   | cons c l ihl=>
    obtain⟨M,hM⟩:=ihl
    by_cases hr:∃r d,Lt c x r/\f r=some d
    ·refine ae.el (hr) _ ?_
     rintro r d hr hd
     refine⟨M+(min x.length c.length+d),fun c' jO r' d' iK hd' =>?_⟩
     rcases J5.mp jO with e|jO
     ·rw[e] at iK
      rw[<-hr.one iK,hd] at hd'
      cases hd'
      rw[e];omega
     ·have:=hM c' jO r' d' iK hd';omega
    ·refine⟨M,fun c' jO r' d' iK hd' =>?_⟩
     rcases J5.mp jO with e|jO
     ·exact absurd ⟨r',d',e▸iK,hd'⟩ hr
     ·exact hM c' jO r' d' iK hd'
  obtain⟨M,hM⟩:=bd cs
  obtain⟨v,hv⟩:=wZ (S:=fun a=>(x∈cs/\a=x.length)∨∃c∈cs,∃r d,Lt c x r/\f r=some d/\a=min x.length c.length+d) (M+x.length) fun a ha=>by
   rcases ha with ⟨_,e⟩|⟨c,hc,r,d,hl,hd,e⟩
   ·omega
   ·have:=hM c hc r d hl hd;omega
  exact⟨v,.mk x f v hf hv⟩
theorem Rk.en {cs:List Sg}{x:Sg}{n:Nat}(h:Rk cs x n):En cs x:=by
 induction h with
 | mk x f n h t ih=>exact .mk x fun c hc r hl=>ih c hc r hl
theorem Dy {B:List (Str×Str)}(h:∀p,Rc (fg B) p->∃o,Wv (fg B) p o)(r:Str)(hr:cW B r):En (fg B) (sg r):=En.xi fun c hc=>by
 obtain⟨q,hq,a,a1,a2,e⟩:=hr
 rw[e]
 exact h _ (.start a (sg q.2) c a1 a2 (ck.mpr ⟨q,hq,rfl⟩) hc)
theorem Dj {B:List (Str×Str)}(g:dB B)(h:∀r,cW B r->En (fg B) (sg r)){p:Sg×Sg}(hp:Rc (fg B) p):∃o,Wv (fg B) p o:=by
 refine Rc.worth (fun k d c h1 h2 hd hc =>?_) hp
 obtain⟨o,hD⟩:=Dl.ex (h _ (uD h1 h2 hd))
 rw[dF] at hD
 have hZ:d.drop k≠[]:=fun z=>by have:=congrArg J9 z;rw[Uw,Yr] at this;omega
 obtain⟨⟨gf,hw,_⟩,_⟩:=hD.worth (CV g) hZ
 exact⟨_,hw c hc⟩
theorem qW.eq {B:List (Str×Str)}{H H':Hp}{p p':Addr}{zs ys:List Rz}(h:qW B H p zs)(g:qW B H' p' ys):Bc zs=Bc ys:=by
 have e:=GR h.nd g.nd h.pw g.pw fun r=>(h.mem r).trans (g.mem r).symm
 unfold Bc
 congr 1
 have key:∀{zs ys:List Rz},zs.map (·.2.1)=ys.map (·.2.1)->(∀z∈zs,Rk (fg B) (sg z.2.1) z.2.2)->(∀z∈ys,Rk (fg B) (sg z.2.1) z.2.2)->zs.map (fun z=>PyData.tuple [.str z.2.1,.int (z.2.2:Nat)])=ys.map (fun z=>PyData.tuple [.str z.2.1,.int (z.2.2:Nat)]):=fun{zs}=>by
  induction zs with
  | nil=>intro ys e _ _;cases ys with|nil=>rfl|cons y ys=>cases e
  | cons z zs ih=>
   intro ys e h1 h2
   cases ys with
   | nil=>cases e
   | cons y ys=>
    rw[Uc,Uc] at e
    injection e with e1 e2
    rw[Uc,Uc,ih e2 (fun x hx=>h1 x (Jq _ hx)) fun x hx=>h2 x (Jq _ hx)]
    have r1:=h1 z Js
    have r2:=h2 y Js
    rw[show z.2.1=y.2.1 from e1] at r1 ⊢
    rw[r1.one r2]
 exact key e h.r g.r
theorem tP {p q:Rz->Bool}:∀{l:List Rz} {r:Rz},(∀x,p x=true->q x=true)->r∈l->q r=true->p r=false->(l.filter p).length<(l.filter q).length
 | x::l,r,h,hr,h1,h2=>by
  have le:∀l:List Rz,(l.filter p).length<=(l.filter q).length:=fun l=>by
   induction l with
   | nil=>exact Jf _
   | cons a l ih=>
    rw[U3,U3]
    by_cases c:p a=true
    ·rw[if_pos c,if_pos (h a c),Jt,Jt];omega
    ·rw[if_neg c];split
     ·rw[Jt];omega
     ·exact ih
  rcases J5.mp hr with e|hr
  ·rw[<-e,U3,U3,h2,if_neg (by decide),if_pos h1,Jt]
   have:=le l;omega
  ·have ih:=tP h hr h1 h2
   rw[U3,U3]
   by_cases c:p x=true
   ·rw[if_pos c,if_pos (h x c),Jt,Jt];omega
   ·rw[if_neg c];split
    ·rw[Jt];omega
    ·exact ih
theorem qW.bound {B:List (Str×Str)}{H:Hp}{p:Addr}{zs:List Rz}(h:qW B H p zs):∀z∈zs,z.2.2<=201:=by
 have key:∀n,(∃z∈zs,z.2.2=n)->n<=(zs.filter fun y=>decide (y.2.2<n)).length+1:=fun n=>by
  induction n with
  | zero=>intro _;omega
  | succ n ih=>
   rintro⟨z,hz,e⟩
   cases n with
   | zero=>omega
   | succ n=>
    have hr:=h.r z hz
    rw[e] at hr
    generalize ex:sg z.2.1=s at hr
    cases hr with
    | mk _ f _ hf t=>
     have hS:=t.1.resolve_left (by omega)
     rcases hS with ⟨_,z1⟩|⟨c,hc,r,hl,er⟩
     ·omega
     ·have eh:=(h.mem _).mp (J8 (f:=fun z:Rz=>z.2.1) hz)
      rw[<-ex] at hl
      have Ei:=jx eh hc hl
      refine ae.el (J0.mp ((h.mem _).mpr Ei)) _ ?_
      rintro y hy ey
      have N3:=h.r y hy
      have ey:y.2.1=toS r:=ey
      rw[ey,dF] at N3
      have An:=hf c hc r (by rw[<-ex];exact hl)
      have e2:=N3.one An
      have h1:=ih ⟨y,hy,by omega⟩
      have h2:=tP (p:=fun y=>decide (y.2.2<n+1)) (q:=fun y=>decide (y.2.2<n+1+1)) (l:=zs) (r:=y) (fun x hx=>decide_eq_true (by have:=of_decide_eq_true hx;omega)) hy (decide_eq_true (by omega)) (decide_eq_false (by omega))
      omega
 intro z hz
 have h1:=key _ ⟨z,hz,rfl⟩
 have h2:=Yj (fun y:Rz=>decide (y.2.2<z.2.2)) zs
 have:=h.le
 omega
theorem qW.fit {B:List (Str×Str)}{H:Hp}{p:Addr}{zs:List Rz}(g:dB B)(h:qW B H p zs):(Bc zs).depth<4/\(Bc zs).weight<=1000000:=by
 have hb:=h.bound
 have hl:∀z∈zs,z.2.1.length<=12:=fun z hz=>(((h.mem _).mp (J8 (f:=fun z:Rz=>z.2.1) hz)).len g).1
 have key:∀{zs:List Rz},(∀z∈zs,z.2.2<=201/\z.2.1.length<=12)->PyData.weightAll (zs.map fun z =>.tuple [.str z.2.1,.int (z.2.2:Nat)])<=220*zs.length/\PyData.depthAll (zs.map fun z =>.tuple [.str z.2.1,.int (z.2.2:Nat)])<=1:=fun{zs}=>by
  induction zs with
  | nil=>exact fun _=>⟨by simp[PyData.weightAll],by simp[PyData.depthAll]⟩
  | cons z zs ih=>
   intro hh
   obtain⟨h1,h2⟩:=ih fun x hx=>hh x (Jq _ hx)
   obtain⟨h3,h4⟩:=hh z Js
   have hw:=sD (i:=(z.2.2:Nat)) (by
    have:(2:Nat)^8<=2^200:=Nat.pow_le_pow_right (by decide) (by decide)
    have e:((z.2.2:Nat):Int).natAbs=z.2.2:=rfl
    rw[e]
    have:z.2.2<2^8:=by omega
    omega)
   have hs:z.2.1.cps.size=z.2.1.length:=rfl
   rw[Uc,Jt]
   have ew:PyData.weight (.str z.2.1)<=12:=by rw[PyData.weight];omega
   refine⟨?_,?_⟩
   ·rw[PyData.weightAll,PyData.weight,PyData.weightAll,PyData.weightAll,PyData.weightAll]
    omega
   ·rw[PyData.depthAll,PyData.depth,PyData.depthAll,PyData.depthAll,PyData.depthAll,PyData.depth,PyData.depth]
    omega
 obtain⟨h1,h2⟩:=key fun z hz=>⟨hb z hz,hl z hz⟩
 have:=h.le
 unfold Bc
 refine⟨?_,?_⟩
 ·rw[PyData.depth];omega
 ·rw[PyData.weight];omega
section
variable {P:Program}{w:World}{K:Jc}{mg:Str->Option Value}{base:Heap}{f T0:Addr}{fd:FuncData}
theorem gz:aN ["_law_script", "_law_state", "_law_turn", "_law_book_here", "_law_codes", "_law_due", "_law_again", "_law_found"] ["_law_script"] (aB (top i9)):=⟨rfl,rfl,rfl,by decide +kernel,rfl,by decide +kernel,by decide +kernel⟩
theorem x8 (F:cY K "law" "law" (top i9) f fd)(T:Nm mg)(o9:Fn P w K mg base 1 "_law_begin" ["_law_script"] (j7 K))(rH:Fn P w K mg base 3 "_law_book" ["_law_state"] (tS K))(mX:Fn P w K mg base 3 "_law_worths" ["_law_codes"] (sW K))(pT:Fn P w K mg base 6 "_law_ranks" ["_law_codes"] (ur K T0 (fU dX)))(sR:Fn P w K mg base 6 "ranks_of" ["book"] (zD K))(iM:Fn P w K mg base 4 "_law_same" ["_law_found", "_law_due"] (kZ K 4))(l4:Fn P w K mg base 4 "shows_ranks" ["book", "thing"] (ue K)):bI P w K mg base fY 7 f fd ["_law_script"] (lF K T0):=by
 refine F.ok gz (fun vs H Q E h =>?_) (fun d9 A outer s H vs Q E hr h =>?_)
 ·obtain⟨a,ns,rfl,_⟩:=h
  rfl
 unfold lF at h
 refine ae.el h _ ?_
 clear h
 rintro a ns rfl hS hlen hT q
 have hu:=gA hr
 have eZ:=hr.units
 have small:∀{n:Nat},n<=30000->n<sizeLine:=fun h=>Ue h (by decide)
 refine⟨_,(ah (aL (i:=1) gz.nd rfl (Or.inl rfl) (bb (o9.mono (by decide)) hr rfl (aa (pv 0) ag)))
  (ah (eY PassesOwn.never rfl (eJ rfl T.n_range (aa aw ag)) (ak (i:=2) gz.nd rfl (Or.inl rfl)) (ah (aL (i:=3) gz.nd rfl (Or.inl rfl) (bb (rH.mono (by decide)) hr rfl (aa (pv 1) ag)))
  (ah (bz (i:=4) gz.nd rfl (Or.inl rfl) rfl (aK (Nc:=["_law_name", "_law_code"]) (Fc:=[]) (js:=[])) (gr K (pv 3)) (fD (aP (aA (i:=0) (n:=2) (by decide)) (aP (aA (i:=1) (n:=2) (by decide)) dH aF bh) aF (br aF bh))) (fun _ _ _ _ _=>(tupK K 2 rfl (aJ (ak (i:=0) (dN ["_law_name", "_law_code"]) rfl (Or.inl rfl)) (aJ (ak (i:=1) (dN ["_law_name", "_law_code"]) rfl (Or.inl rfl)) cB)))) (fun _ _ _ _ _=>aX) (fun _ _ _ _ _=>(pv 1)))
  (ah (aL (i:=5) gz.nd rfl (Or.inl rfl) (dP (aI (Qt (Ue (Yv _) hu)) (bb (mX.mono (by decide)) hr rfl (aa (pv 4) ag)) qg (aH _)) d7 (bb (pT.mono (by decide)) hr rfl (aa (pv 4) ag))))
  (ao (eY PassesOwn.never rfl (eJ rfl T.n_range (aa aw ag)) (ak (i:=6) gz.nd rfl (Or.inl rfl)) (ah (aL (i:=7) gz.nd rfl (Or.inl rfl) (bb (sR.mono (by decide)) hr rfl (aa (pv 3) ag)))
  (ah (cb (kD (dc (bb (iM.mono (by decide)) hr rfl (aa (pv 7) (aa (pv 5) ag))))) (ao (aM ee)) ba)
  (ao (cb (aI ig (pv 7) d7 (aH _)) (ah (cb (aI ig (bb (l4.mono (by decide)) hr rfl (aa (pv 3) (aa (pv 7) ag))) ee (aH _)) (ao (aM ee)) ba)
  (ah (cX (Ca K PySem.F.plainAttrs_list PySem.F.slot_list_reverse PySem.F.type_list_reverse yx (pv 7)))
  (ao (cX (sr K PySem.F.plainAttrs_list PySem.F.slot_list_append PySem.F.type_list_append og (pv 7) (aa (fA (aa bf (aa aw ag))) ag)))))) ba))))))))))
  (ao (aM ee)))),?_⟩
 refine⟨_,rfl,a,ns,rfl,hS,hlen,fun b c H1 bx hb hc sm1=>gn ?_⟩
 have Bp:=kJ _ _ (sm1 _ _ hT)
 dsimp only
 clear sm1 hS hlen
 refine cz (t:=nO _ _ _) (fun σ H'=>True) (fun Nx nx =>?_) ?_
 ·refine⟨_,rfl,by decide,by decide,?_⟩
  refine fQ (N:=3) (fun i σ H'=>bO fun(t':Int) (ps:Array Value)=>Gx fun(x2 x3 x4 x5 x6 x7:Option V) =>σ=[some (.ref a),some (.ref b),x2,x3,x4,x5,x6,x7]/\Bx H' b c t'/\0<=t'/\t'<=400*i/\H' T0=some (.tbl ps)/\Tab H' (fU dX) lX ps) ⟨0,_,_,_,_,_,_,_,rfl,bx,Yn _,by decide,Bp,.inl rfl⟩ ?_ ?_
  ·intro i σ H2 hi
   refine ae.go ?_
   rintro t2 ps x2 x3 x4 x5 x6 x7 rfl zB OE Pf NY tab2
   refine⟨hi,?_⟩
   rintro x H2' ⟨rfl,rfl⟩
   refine gn ?_
   dsimp only
   refine⟨_,rfl,b,c,t2,rfl,zB,OE,by omega,fun bk v H3 t3 gk hA cS=>gn ?_⟩
   obtain⟨l,vs,rfl,hl,hd⟩:=hA
   have hW:aD K H3 l vs:=kJ.seq (aD.of hl)
   have Bg:=hd.same (kJ (H:=H3) (b:=b) (c:=c))
   have QT:=yC zB cS NY
   have M0:=wD zB cS tab2
   have QC:=cS.bx
   have Ry:=cS.le
   have RD:=cS.ub
   have QS:=nP hd
   have RN:=gk.le
   clear hl hd
   dsimp only
   refine bW (te:=eO _ _ _ _ _ _) (fun v H'=>∃cp,v = .ref cp/\dM H3 cp (.lst ((bk.map (·.2)).map V.str)) H') (fun Qn qn =>?_) ?_
   ·refine⟨_,rfl,l,rfl,⟨_,hW⟩,?_⟩
    refine eR (N:=bk.length) (fun k ys H'=>H'=H3/\ys=((bk.take k).map (·.2)).map V.str) ⟨rfl,rfl⟩ ?_ ?_
    ·rintro k ys H5 Ny hk ⟨rfl,rfl⟩ ny
     refine ae.el (qH Bg hk) _ ?_
     rintro tp e1 e2
     refine⟨⟨_,_,hW,e1⟩,small (by rw[Ja,Ja,J6];omega),?_⟩
     rintro x H6 ⟨rfl,hy⟩
     have e:=hy _ hW
     rw[e1] at e;cases e
     refine⟨tp,_,rfl,e2,rfl,_,_,rfl,_,_,rfl,rfl,?_⟩
     dsimp only[fP]
     rw[if_pos rfl]
     refine⟨_,rfl,ny _ _ ⟨rfl,?_⟩⟩
     rw[aG hk]
     show _=List.map V.str (List.map (·.2) (bk.take k++[bk[k]]))
     rw[Jh,Jh];rfl
    ·rintro ys H5 ⟨rfl,rfl⟩
     rw[J3]
     exact⟨⟨_,hW,by omega⟩,fun cp H6 n6=>qn _ _ ⟨cp,rfl,n6⟩⟩
   intro v H4
   refine ae.go ?_
   rintro cp rfl n4
   refine gn ?_
   have FZ:=n4.same _ _ QT
   have GD:=fe M0 n4.same
   have P4:=QC.same n4.same
   refine bW (te:=HL _ _ _) (fun v H'=>∃pH:Array Value,Kp T0 H4 H'/\H' T0=some (.tbl pH)/\Tab H' (fU dX) lX pH/\((v = .non/\¬ ∀r,cW bk r->En (fg bk) (sg r))∨bO fun(p:Addr) (zs:List Rz)=>v = .ref p/\qW bk H' p zs)) (fun Qn qn =>?_) ?_
   ·refine⟨_,rfl,cp,bk.map (·.2),rfl,n4.at,ve gk,fun wv H5 s5 hw e6 H6 n6 =>?_⟩
    obtain⟨wd,rfl,hw⟩:=hw
    have s6:=s5.trans n6.same
    have NU:DN H6 e6 0 := .inl ⟨[],.inl n6.at,rfl⟩
    rcases hw with ⟨dn,sT⟩|⟨kvs,hkv,kne,eg,_⟩
    ·have QU:DN H6 wd 0:=by
      rcases dn with ⟨kvs,h|⟨o,h⟩,e⟩|⟨kvs,h|⟨o,h⟩,e⟩
      ·exact .inl ⟨kvs,.inl (n6.same _ _ h),e⟩
      ·exact .inl ⟨kvs,.inr ⟨o,n6.same _ _ h⟩,e⟩
      ·exact .inr ⟨kvs,.inl (n6.same _ _ h),e⟩
      ·exact .inr ⟨kvs,.inr ⟨o,n6.same _ _ h⟩,e⟩
     refine⟨wd,e6,0,rfl,rfl,QU,NU,_,rfl,cj (qn _ _ ⟨ps,fun b o _ e=>s6 b o e,s6 _ _ FZ,fe GD s6,.inl ⟨rfl,fun h =>?_⟩⟩)⟩
     refine ae.el (sT) _ ?_
     rintro pp hpp sT
     obtain⟨o,ho⟩:=Dj gk h hpp
     exact sT o ho
    ·refine⟨wd,e6,kvs.length,rfl,rfl,.inr ⟨kvs,.inl (n6.same _ _ hkv),rfl⟩,NU,_,rfl,?_⟩
     have ek:(kvs.length==0)=false:=by cases kvs with|nil=>exact absurd rfl kne|cons _ _=>rfl
     rw[ek]
     refine bA ⟨_,rfl,cp,bk,ps,rfl,s6 _ _ n4.at,gk,s6 _ _ FZ,fe GD s6,Dy eg,fun zs p pH H7 k7 Ib hT7 tab7=>qn _ _ ⟨pH,fun b o hb e=>k7 b o hb (s6 b o e),hT7,tab7,.inr ⟨p,zs,rfl,Ib⟩⟩⟩
   intro dv H7
   refine ae.go ?_
   intro pH k7 hT7 tab7 hdue
   refine gn ?_
   have Nk:vP K H7 bk l:=⟨vs,Kp.seq k7 FZ (n4.same.seq hW),aO.kp k7 FZ (Bg.same n4.same)⟩
   have Qq:Bx H7 b c t3:=Kp.bx k7 FZ P4
   refine⟨_,rfl,by decide,by decide,?_⟩
   refine fQ (N:=2) (fun j σ H'=>bO fun(x6 x7:Option V) =>σ=[some (.ref a),some (.ref b),some (.int (0+(i:Int))),some (.ref l),some (.ref cp),some dv,x6,x7]/\au H7 H') ⟨_,_,rfl,au.refl _⟩ ?_ ?_
   ·intro j σ H8 hj
    refine ae.go ?_
    rintro x6 x7 rfl s8
    refine⟨hj,?_⟩
    rintro x H8' ⟨rfl,rfl⟩
    refine gn ?_
    dsimp only
    refine⟨_,rfl,l,bk,rfl,Nk.same s8,gk,fun H9 s9 hZ=>gn ?_,fun r zs H9 s9 hr0 hzr eg=>gn ?_⟩
    ·rcases hdue with ⟨rfl,_⟩|⟨p,ys,rfl,hys⟩
     ·refine⟨_,rfl,_,rfl,.non,.non,.none,rfl,by unfold Den;rfl,by unfold Den;rfl,by decide,by decide,fun H10 s10=>⟨_,rfl,bA ?_⟩⟩
      exact⟨_,rfl,.inl ⟨rfl,_,rfl,bA ⟨_,_,rfl,s8.trans (s9.trans s10)⟩⟩⟩
     ·refine ae.el (hZ) _ ?_
      rintro r hr hn
      refine ae.el (J0.mp ((hys.mem r).mpr hr)) _ ?_
      rintro y hy rfl
      exact absurd (hys.r y hy).en hn
    ·rcases hdue with ⟨_,sT⟩|⟨p,ys,rfl,hys⟩
     ·exact absurd eg sT
     ·have OB:=s8.trans s9
      have e:=hzr.eq hys
      obtain⟨f1,f2⟩:=hzr.fit gk
      have PF:H7 r=none:=s8.free hr0
      refine⟨_,rfl,_,rfl,.ref r,.ref p,Bc zs,rfl,hzr.den,by rw[e];exact(hys.same OB).den,f1,f2,fun H10 s10=>⟨_,rfl,bA ?_⟩⟩
      have Fi:=hzr.same s10
      have Ht:=OB.trans s10
      refine⟨_,rfl,.inl ⟨rfl,_,rfl,cj ?_⟩⟩
      refine⟨_,rfl,_,rfl,l,r,bk,zs,rfl,Nk.same Ht,gk,Fi,fun qb s11 =>.inr ⟨_,_,rfl,rfl,_,rfl,bA ?_⟩⟩
      have yD:=s11 _ _ Fi.l
      have JW:=Ht.trans s11
      refine⟨_,rfl,.inl ⟨rfl,_,aD.of yD⟩,r,_,rfl,rfl,yD,fun HA cA =>?_⟩
      refine⟨_,rfl,.inl ⟨rfl,_,aD.of cA.at⟩,by show 2<=sizeLine;decide,fun t HB nB=>⟨r,_,_,rfl,rfl,nB.same _ _ cA.at,small (by rw[List.length_reverse,Ja];have:=hzr.le;omega),fun HC cC=>⟨_,_,rfl,fun z o ez =>?_⟩⟩⟩
      have nz:=ai ez PF
      rw[cC.ne nz]
      refine nB.same _ _ ?_
      rw[cA.ne nz]
      exact JW _ _ ez
   ·intro σ H8
    refine ae.go ?_
    rintro x6 x7 rfl s8
    exact⟨Jf _,t3,pH,_,_,_,_,_,_,rfl,Qq.same s8,by omega,by omega,s8 _ _ hT7,fe tab7 s8⟩
  ·intro σ H2 hz_
   exact⟨Jf _,nx _ _ trivial⟩
 intro σ H2 _
 exact q H2
end
theorem lenZ {α:Type}{P:List α->Prop}(h:P []):∀us:List α,us.length=0->P us:=fun us e=>J7 e▸h
theorem cc {α:Type}{P:List α->Prop}{n:Nat}(h:∀a (us:List α),us.length=n->P (a::us))(us:List α)(e:us.length=n+1):P us:=by
 cases us with|nil=>cases e|cons a us=>exact h a us (Nat.succ.inj e)
theorem all_mk {l:PySem.W.OpenLaw}{w:World}{K:Jc}{h:Heap}{mg:Str->Option Value}{fa f1 f2 f3 f4 f5 f6 f7 f8 f9 La MZ IZ MM IT MY HP Mz Li K3 IX Md L9 JQ M6 Ic IU Kw:Addr}(X:K.In h)(G:h.Ns mainGlobals mg)(P8:mg "law" = some (.ref fa))
  {PQ:FuncData}
  {Pm:FuncData}
  {QG:FuncData}
  {Qi:FuncData}
  {QZ:FuncData}
  {O9:FuncData}
  {Pc:FuncData}
  {Pl:FuncData}
  {Qz:FuncData}
  {JY:FuncData}
  {KW:FuncData}
  {MS:FuncData}
  {Kt:FuncData}
  {Lw:FuncData}
  {MH:FuncData}
  {Le:FuncData}
  {LU:FuncData}
  {LP:FuncData}
  {Mj:FuncData}
  {I0:FuncData}
  {IJ:FuncData}
  {Kq:FuncData}
  {LJ:FuncData}
  {KL:FuncData}
  {JR Mp:Option Addr} {Nf:Array (Option Value)} {M1 MG Lb KA JF:Value}
  {MC:FuncData}
  {Kk FO:Option Addr} {Lf:Array (Option Value)} {Kf Hr Fs FH Ce G6:Value}
  {MW:Tok}
  {Qc:Option Addr} {Br:Array Value} {O5:Array (Option Value)} {GW:Str} {Qa QA Q4:Tok} {B3 ED:Int} {MX:Bool}
  (a1:J1 K mainGlobals "made_of" = some (some (.ref f1))) (F1:cY K "made_of" "made_of" (top jB) f1 PQ)
  (a2:J1 K mainGlobals "is_code" = some (some (.ref f2))) (F2:cY K "is_code" "is_code" (top jk) f2 Pm)
  (a3:J1 K mainGlobals "rest_of" = some (some (.ref f3))) (F3:cY K "rest_of" "rest_of" (top jG) f3 QG)
  (a4:J1 K mainGlobals "is_number" = some (some (.ref f4))) (F4:cY K "is_number" "is_number" (top gP) f4 Qi)
  (a5:J1 K mainGlobals "length_first" = some (some (.ref f5))) (F5:cY K "length_first" "length_first" (top eV) f5 QZ)
  (a6:J1 K mainGlobals "code_ends" = some (some (.ref f6))) (F6:cY K "code_ends" "code_ends" (top gH) f6 O9)
  (a7:J1 K mainGlobals "lags_behind" = some (some (.ref f7))) (F7:cY K "lags_behind" "lags_behind" (top fF) f7 Pc)
  (a8:J1 K mainGlobals "lags_of" = some (some (.ref f8))) (F8:cY K "lags_of" "lags_of" (top jC) f8 Pl)
  (a9:J1 K mainGlobals "ending_lags" = some (some (.ref f9))) (F9:cY K "ending_lags" "ending_lags" (top fE) f9 Qz)
  (Mt:J1 K mainGlobals "ranks_of" = some (some (.ref La))) (Gv:cY K "ranks_of" "ranks_of" (top iG) La JY)
  (JE:J1 K mainGlobals "is_ranked" = some (some (.ref MZ))) (ES:cY K "is_ranked" "is_ranked" (top gR) MZ KW)
  (LA:J1 K mainGlobals "falls" = some (some (.ref IZ))) (EJ:cY K "falls" "falls" (top oC) IZ MS)
  (Kv:J1 K mainGlobals "shows_ranks" = some (some (.ref MM))) (G8:cY K "shows_ranks" "shows_ranks" (top fC) MM Kt)
  (Nd:J1 K mainGlobals "_law_begin" = some (some (.ref IT))) (Ew:cY K "_law_begin" "_law_begin" (top gN) IT Lw)
  (JS:J1 K mainGlobals "_law_take" = some (some (.ref MY))) (Gw:cY K "_law_take" "_law_take" (top iP) MY MH)
  (Ie:J1 K mainGlobals "_law_same" = some (some (.ref HP))) (Gu:cY K "_law_same" "_law_same" (top iO) HP Le)
  (Lj:J1 K mainGlobals "_law_names" = some (some (.ref Mz))) (FY:cY K "_law_names" "_law_names" (top g6) Mz LU)
  (JX:J1 K mainGlobals "_law_free" = some (some (.ref Li))) (FN:cY K "_law_free" "_law_free" (top iL) Li LP)
  (LH:J1 K mainGlobals "_law_sizes" = some (some (.ref K3))) (HI:cY K "_law_sizes" "_law_sizes" (top gO) K3 Mj)
  (Ko:J1 K mainGlobals "_law_book" = some (some (.ref IX))) (FF:cY K "_law_book" "_law_book" (top iB) IX I0)
  (M4:J1 K mainGlobals "_law_steps" = some (some (.ref Md))) (Ga:cY K "_law_steps" "_law_steps" (top gX) Md IJ)
  (KY:J1 K mainGlobals "_law_pairs" = some (some (.ref L9))) (FV:cY K "_law_pairs" "_law_pairs" (top gK) L9 Kq)
  (Lx:J1 K mainGlobals "_law_worths" = some (some (.ref JQ))) (GQ:cY K "_law_worths" "_law_worths" (top fX) JQ LJ)
  (MN:J1 K mainGlobals "_law_left" = some (some (.ref M6))) (Gp:cY K "_law_left" "_law_left" (top iD) M6 KL)
  (Ka:J1 K mainGlobals "_law_lags" = some (some (.ref Ic))) (M3:K.lookup Ic=some ⟨M1,JR,.func (Wk "_law_lags" "_law_lags" (fN (top cU)) (dG (top cU)) (aB (top cU)) .none MG Lb KA Mp (.ref 160) JF),Nf⟩) (MR:PySem.W.codeIn K (.ref 160) "_law_lags" = true) (IC:PySem.W.keepIn K (.ref Ic)=true)
  (L8:J1 K mainGlobals "_law_ranks" = some (some (.ref IU))) (FJ:cY K "_law_ranks" "_law_ranks" (top gS) IU MC)
  (JD:J1 K mainGlobals "law" = some (some (.ref Kw))) (MI:K.lookup Kw=some ⟨Kf,Kk,.func (Wk "law" "law" (fN (top i9)) (dG (top i9)) (aB (top i9)) .none Hr Fs FH FO Ce G6),Lf⟩) (Kg:PySem.W.codeIn K Ce "law" = true) (Na:PySem.W.keepIn K (.ref Kw)=true)
  (MA:J1 K mainGlobals "SIGNS" = some (some (.str rR MW)))
  (My:K.lookup 160=some ⟨.type "code",Qc,.fields Br,O5⟩)
  (v11:Br[11]? = some (.ref 158))
  (C4:Br.getD 11 .none = .ref 158)
  (Mn:Br.getD 18 .none = .str GW Qa)
  (v7:Br.getD 7 .none = .int B3 QA)
  (v9:Br.getD 9 .none = .bool MX)
  (v10:Br.getD 10 .none = .int ED Q4)
  (y0:J1 K mainGlobals "sorted" = some none)
  (y1:J1 K mainGlobals "set" = some none)
  (y2:J1 K mainGlobals "dict" = some none)
  (z0:J1 K mainGlobals "len" = some none) (z1:J1 K mainGlobals "range" = some none) (z2:J1 K mainGlobals "max" = some none) (z3:J1 K mainGlobals "min" = some none) (z4:J1 K mainGlobals "sum" = some none) (z5:J1 K mainGlobals "all" = some none) (z6:J1 K mainGlobals "any" = some none) (z7:J1 K mainGlobals "list" = some none) (z8:J1 K mainGlobals "tuple" = some none) (z9:J1 K mainGlobals "int" = some none) (Ks:J1 K mainGlobals "str" = some none) (Mc:J1 K mainGlobals "bool" = some none) (K6:J1 K mainGlobals "zip" = some none) (Lz:J1 K mainGlobals "enumerate" = some none) (LR:J1 K mainGlobals "isinstance" = some none) (MO:J1 K mainGlobals "divmod" = some none) :
  ∃fd:FuncData,(∀(s:Shared) (v:Value),BindsTo s fd ⟨[v],[]⟩ [("_law_script",v)])/\∀base:Heap,K.In base->base.Ns mainGlobals mg->base.BuiltinsAt mg 158->bI l.prog w K mg base fY 7 fa fd ["_law_script"] (lF K 158):=by
 have e:=P8.symm.trans (Ui X G JD)
 cases e
 have T:Nm mg:=⟨Uj X G z0,Uj X G z1,Uj X G z2,Uj X G z3,Uj X G z4,Uj X G z5,Uj X G z6,Uj X G z7,Uj X G z8,Uj X G z9,Uj X G Ks,Uj X G Mc,Uj X G K6,Uj X G Lz,Uj X G LR,Uj X G MO⟩
 have de:=Uj X G y0
 have xc:=Uj X G y1
 have qY:=Uj X G y2
 have nQ:=Ui X G MA
 have k1:=F1.kp
 have b1:=F1.binds (ps:=["text", "signs"]) fun _ _ _ _ _ _=>cc fun _=>cc fun _=>lenZ rfl
 have k2:=F2.kp
 have b2:=F2.binds (ps:=["thing"]) fun _ _ _ _ _ _=>cc fun _=>lenZ rfl
 have k3:=F3.kp
 have b3:=F3.binds (ps:=["one", "other"]) fun _ _ _ _ _ _=>cc fun _=>cc fun _=>lenZ rfl
 have k4:=F4.kp
 have b4:=F4.binds (ps:=["thing"]) fun _ _ _ _ _ _=>cc fun _=>lenZ rfl
 have k5:=F5.kp
 have b5:=F5.binds (ps:=["text"]) fun _ _ _ _ _ _=>cc fun _=>lenZ rfl
 have k6:=F6.kp
 have b6:=F6.binds (ps:=["book"]) fun _ _ _ _ _ _=>cc fun _=>lenZ rfl
 have k7:=F7.kp
 have b7:=F7.binds (ps:=["book", "lag"]) fun _ _ _ _ _ _=>cc fun _=>cc fun _=>lenZ rfl
 have k8:=F8.kp
 have b8:=F8.binds (ps:=["book"]) fun _ _ _ _ _ _=>cc fun _=>lenZ rfl
 have k9:=F9.kp
 have b9:=F9.binds (ps:=["book"]) fun _ _ _ _ _ _=>cc fun _=>lenZ rfl
 have P0:=Gv.kp
 have Ru:=Gv.binds (ps:=["book"]) fun _ _ _ _ _ _=>cc fun _=>lenZ rfl
 have QL:=ES.kp
 have Qm:=ES.binds (ps:=["thing"]) fun _ _ _ _ _ _=>cc fun _=>lenZ rfl
 have OS:=EJ.kp
 have Qf:=EJ.binds (ps:=["book", "ranks", "lag"]) fun _ _ _ _ _ _=>cc fun _=>cc fun _=>cc fun _=>lenZ rfl
 have AV:=G8.kp
 have Qr:=G8.binds (ps:=["book", "thing"]) fun _ _ _ _ _ _=>cc fun _=>cc fun _=>lenZ rfl
 have Qe:=Ew.kp
 have Pa:=Ew.binds (ps:=["_law_script"]) fun _ _ _ _ _ _=>cc fun _=>lenZ rfl
 have Py:=Gw.kp
 have PN:=Gw.binds (ps:=["_law_state", "_law_many"]) fun _ _ _ _ _ _=>cc fun _=>cc fun _=>lenZ rfl
 have OG:=Gu.kp
 have NX:=Gu.binds (ps:=["_law_found", "_law_due"]) fun _ _ _ _ _ _=>cc fun _=>cc fun _=>lenZ rfl
 have OV:=FY.kp
 have QO:=FY.binds (ps:=["_law_state", "_law_many"]) fun _ _ _ _ _ _=>cc fun _=>cc fun _=>lenZ rfl
 have Rf:=FN.kp
 have Rl:=FN.binds (ps:=["_law_state", "_law_many", "_law_most"]) fun _ _ _ _ _ _=>cc fun _=>cc fun _=>cc fun _=>lenZ rfl
 have QN:=HI.kp
 have Qs:=HI.binds (ps:=["_law_state"]) fun _ _ _ _ _ _=>cc fun _=>lenZ rfl
 have Pu:=FF.kp
 have Pr:=FF.binds (ps:=["_law_state"]) fun _ _ _ _ _ _=>cc fun _=>lenZ rfl
 have Qy:=Ga.kp
 have QJ:=Ga.binds (ps:=["_law_codes", "_law_pair"]) fun _ _ _ _ _ _=>cc fun _=>cc fun _=>lenZ rfl
 have Pg:=FV.kp
 have PY:=FV.binds (ps:=["_law_codes"]) fun _ _ _ _ _ _=>cc fun _=>lenZ rfl
 have Rt:=GQ.kp
 have QF:=GQ.binds (ps:=["_law_codes"]) fun _ _ _ _ _ _=>cc fun _=>lenZ rfl
 have PV:=Gp.kp
 have Pp:=Gp.binds (ps:=["_law_one", "_law_other"]) fun _ _ _ _ _ _=>cc fun _=>cc fun _=>lenZ rfl
 have NS:=bw (st:=top cU) M3 MR IC
 have Px:=NS.binds (ps:=["_law_codes"]) fun _ _ _ _ _ _=>cc fun _=>lenZ rfl
 have Ra:=FJ.kp
 have OW:=FJ.binds (ps:=["_law_codes"]) fun _ _ _ _ _ _=>cc fun _=>lenZ rfl
 have Rj:=bw (st:=top i9) MI Kg Na
 refine⟨Wk "law" "law" (fN (top i9)) (dG (top i9)) (aB (top i9)) .none Hr Fs FH FO Ce G6,fun s v =>.of_eq rfl,fun base hB hG LBL =>?_⟩
 have Pj:PySem.W.CodeHd base 160 158:=⟨_,Br,_,_,_,_,_,_,_,hB _ _ My,rfl,rfl,v11,C4,Mn,v7,v9,v10,by decide⟩
 have FD:Fn l.prog w K mg base 1 "made_of" ["text", "signs"] (m9):=⟨f1,_,Az F1 T,b1,k1,Ui X G a1⟩
 have LX:Fn l.prog w K mg base 2 "is_code" ["thing"] (uv):=⟨f2,_,C0 F2 T nQ FD,b2,k2,Ui X G a2⟩
 have Fl:Fn l.prog w K mg base 1 "rest_of" ["one", "other"] (nM):=⟨f3,_,Aw F3 T,b3,k3,Ui X G a3⟩
 have JC:Fn l.prog w K mg base 1 "is_number" ["thing"] (tL K):=⟨f4,_,CJ F4 T,b4,k4,Ui X G a4⟩
 have QY:Fn l.prog w K mg base 1 "length_first" ["text"] (zK):=⟨f5,_,Et F5 T,b5,k5,Ui X G a5⟩
 have Nu:Fn l.prog w K mg base 1 "code_ends" ["book"] (xU K):=⟨f6,_,G3 F6 T,b6,k6,Ui X G a6⟩
 have Lh:Fn l.prog w K mg base 2 "lags_behind" ["book", "lag"] (vp K):=⟨f7,_,GL F7 T Fl,b7,k7,Ui X G a7⟩
 have G0:Fn l.prog w K mg base 4 "lags_of" ["book"] (qp K):=⟨f8,_,DD F8 T de Nu QY,b8,k8,Ui X G a8⟩
 have Pb:Fn l.prog w K mg base 4 "lags_of" ["book"] (Di K):=Fn.imp G0 (fun _ _ _ _ h=>zz h)
 have PH:Fn l.prog w K mg base 5 "ending_lags" ["book"] (AY K):=⟨f9,_,Ez F9 T Pb Lh,b9,k9,Ui X G a9⟩
 have QB:Fn l.prog w K mg base 6 "ranks_of" ["book"] (zD K):=⟨La,_,EZ Gv T G0 PH Lh,Ru,P0,Ui X G Mt⟩
 have OT:Fn l.prog w K mg base 3 "is_ranked" ["thing"] (Ab K):=⟨MZ,_,Fu ES T LX JC,Qm,QL,Ui X G JE⟩
 have Rg:Fn l.prog w K mg base 3 "falls" ["book", "ranks", "lag"] (Ae K):=⟨IZ,_,Gb EJ T Lh,Qf,OS,Ui X G LA⟩
 have Lm:Fn l.prog w K mg base 4 "shows_ranks" ["book", "thing"] (ue K):=⟨MM,_,CC G8 T OT Nu Rg,Qr,AV,Ui X G Kv⟩
 have Cm:Fn l.prog w K mg base 1 "_law_begin" ["_law_script"] (j7 K):=⟨IT,_,xh Ew T,Pa,Qe,Ui X G Nd⟩
 have FE:Fn l.prog w K mg base 1 "_law_take" ["_law_state", "_law_many"] (oE):=⟨MY,_,zh Gw T,PN,Py,Ui X G JS⟩
 have Ih:Fn l.prog w K mg base 1 "_law_take" ["_law_state", "_law_many"] (uB):=Fn.imp FE (fun _ _ _ _ h=>zJ h)
 have Gj:∀n:Nat,Fn l.prog w K mg base (n+0) "_law_same" ["_law_found", "_law_due"] (kZ K n):=fun n=>by
  induction n with
  | zero=>exact⟨HP,_,⟨fun vs H Q E h=>absurd h (by rintro⟨_,_,_,_,_,_,z,_⟩;exact absurd z (Nat.not_lt_zero _)),fun A outer s H args us vs Q E _ _ _ _ h=>absurd h (by rintro⟨_,_,_,_,_,_,z,_⟩;exact absurd z (Nat.not_lt_zero _))⟩,NX,OG,Ui X G Ie⟩
  | succ n ih=>exact⟨HP,_,Aa Gu T ih,NX,OG,Ui X G Ie⟩
 have O4:Fn l.prog w K mg base 2 "_law_names" ["_law_state", "_law_many"] (zg):=⟨Mz,_,zq FY T Ih,QO,OV,Ui X G Lj⟩
 have Fp:Fn l.prog w K mg base 2 "_law_free" ["_law_state", "_law_many", "_law_most"] (Aq):=⟨Li,_,A5 FN T Ih,Rl,Rf,Ui X G JX⟩
 have Q6:Fn l.prog w K mg base 2 "_law_sizes" ["_law_state"] (uu):=⟨K3,_,C7 HI T Ih,Qs,QN,Ui X G LH⟩
 have Pt:Fn l.prog w K mg base 3 "_law_book" ["_law_state"] (tS K):=⟨IX,_,Ay FF T de xc Ih Q6 Fp O4,Pr,Pu,Ui X G Ko⟩
 have KU:Fn l.prog w K mg base 1 "_law_steps" ["_law_codes", "_law_pair"] (uq K):=⟨Md,_,CI Ga T,QJ,Qy,Ui X G M4⟩
 have JK:Fn l.prog w K mg base 2 "_law_pairs" ["_law_codes"] (sX K):=⟨L9,_,D1 FV T KU,PY,Pg,Ui X G KY⟩
 have Lp:Fn l.prog w K mg base 3 "_law_worths" ["_law_codes"] (sW K):=⟨JQ,_,Dz GQ T JK,QF,Rt,Ui X G Lx⟩
 have GU:Fn l.prog w K mg base 1 "_law_left" ["_law_one", "_law_other"] (oV):=⟨M6,_,CZ Gp T,Pp,PV,Ui X G MN⟩
 have MK:Fn l.prog w K mg base 1 "_law_left" ["_law_one", "_law_other"] (xr):=Fn.imp GU (fun _ _ _ _ h=>xP h)
 have GZ:Fn l.prog w K mg base 5 "_law_lags" ["_law_codes"] (nV K 158 (fU dX)):=⟨Ic,_,zr NS T de rfl Pj LBL (by decide) MK,Px,IC,Ui X G Ka⟩
 have LM:Fn l.prog w K mg base 6 "_law_ranks" ["_law_codes"] (ur K 158 (fU dX)):=⟨IU,_,CD FJ T qY GZ GU,OW,Ra,Ui X G L8⟩
 exact x8 Rj T Cm Pt Lp LM QB (Gj 4) Lm
theorem walk {l:PySem.W.OpenLaw}{q:Program}{loose:List Str}{XP:(Str->Option Value)->Heap->Prop}{YP:World->Heap->Prop}{d:DefRec}{K:Params->Jc}(hn:l.most=some 63)(Hv:d.params.defaults=[])
  (hY:∀(w:World) (h:Heap),YP w h->(K w.params).In h)
  (Ly:∀(w:World) (h:Heap),YP w h->h.get? 158=some (PySem.W.tabObj #[])) (hc:∀w:World,∃c o vs,(K w.params).lookup c=some o/\o.cls = .type "code" /\ o.data = .fields vs/\vs[11]? = some (.ref 158)) (kT:∀w:World,(K w.params).lookup 158=none)
  (F:∀(w:World) (mg:Str->Option Value) (fa:Addr) (h:Heap),(K w.params).In h->h.Ns mainGlobals mg->mg d.name=some (.ref fa) ->
   ∃fd:FuncData,(∀(s:Shared) (u:Value),BindsTo s fd ⟨[u],[]⟩ [("_law_script",u)])/\∀base:Heap,(K w.params).In base->base.Ns mainGlobals mg->base.BuiltinsAt mg 158->bI l.prog w (K w.params) mg base fY 7 fa fd ["_law_script"] (lF (K w.params) 158)) :
  PySem.W.WalkO q loose XP YP l.row.toRowW d [] (fun f vs=>PySem.call f vs):=
 L2.xC (T:=158) (n:=63) (k:=7) (x := "_law_script") (CX:=fun _=>fY) (sp:=fun w=>lF (K w.params) 158) hn (by decide) Hv ⟨rfl,by decide,by decide,rfl⟩ hY Ly hc kT F (fun _ _ a ns hl hT hS=>⟨a,ns,rfl,hS,hl,hT,fun _=>rfl⟩) fun _ _ _ _ _ z=>z
end Z
open PySem PySem.W PyProof.Rows L2
set_option maxRecDepth 100000 in
set_option maxHeartbeats 0 in
theorem PySem.Challenge.cw_oddlong_k61_ranks_holds : PySem.Challenge.rw_oddlong_k61_ranks.Holds := by
  w_on; o_law; k_head; (case hw => w_witness2)
  k_fill
  refine Z.walk (l := PySem.Challenge.rw_oddlong_k61_ranks) rfl rfl (fun w h Y => PySem.W.km_in_of Y) (fun w h Y => PySem.W.km_tabs_of Y 158 (by decide)) ?C ?KT ?F
  case C => exact fun w => ⟨160, _, _, by k_is, rfl, rfl, rfl⟩
  case KT => exact fun w => rfl
  case F =>
    intro w mg fa h KX G hmg
    refine' Z.all_mk KX G hmg ?a1 ?F1 ?a2 ?F2 ?a3 ?F3 ?a4 ?F4 ?a5 ?F5 ?a6 ?F6 ?a7 ?F7 ?a8 ?F8 ?a9 ?F9 ?Mt ?Gv ?JE ?ES ?LA ?EJ ?Kv ?G8 ?Nd ?Ew ?JS ?Gw ?Ie ?Gu ?Lj ?FY ?JX ?FN ?LH ?HI ?Ko ?FF ?M4 ?Ga ?KY ?FV ?Lx ?GQ ?MN ?Gp ?Ka ?M3 ?MR ?IC ?L8 ?FJ ?JD ?MI ?Kg ?Na ?MA ?My ?v11 ?C4 ?Mn ?v7 ?v9 ?v10 ?y0 ?y1 ?y2 ?z0 ?z1 ?z2 ?z3 ?z4 ?z5 ?z6 ?z7 ?z8 ?z9 ?Ks ?Mc ?K6 ?Lz ?LR ?MO
    (case a1 => k_is); (case F1 => (refine' bw ?l ?c ?k; (case l => k_is); (case c => k_is); (case k => k_is))); (case a2 => k_is); (case F2 => (refine' bw ?l ?c ?k; (case l => k_is); (case c => k_is); (case k => k_is))); (case a3 => k_is); (case F3 => (refine' bw ?l ?c ?k; (case l => k_is); (case c => k_is); (case k => k_is))); (case a4 => k_is); (case F4 => (refine' bw ?l ?c ?k; (case l => k_is); (case c => k_is); (case k => k_is)))
    (case a5 => k_is); (case F5 => (refine' bw ?l ?c ?k; (case l => k_is); (case c => k_is); (case k => k_is))); (case a6 => k_is); (case F6 => (refine' bw ?l ?c ?k; (case l => k_is); (case c => k_is); (case k => k_is))); (case a7 => k_is); (case F7 => (refine' bw ?l ?c ?k; (case l => k_is); (case c => k_is); (case k => k_is))); (case a8 => k_is); (case F8 => (refine' bw ?l ?c ?k; (case l => k_is); (case c => k_is); (case k => k_is)))
    (case a9 => k_is); (case F9 => (refine' bw ?l ?c ?k; (case l => k_is); (case c => k_is); (case k => k_is))); (case Mt => k_is); (case Gv => (refine' bw ?l ?c ?k; (case l => k_is); (case c => k_is); (case k => k_is))); (case JE => k_is); (case ES => (refine' bw ?l ?c ?k; (case l => k_is); (case c => k_is); (case k => k_is))); (case LA => k_is); (case EJ => (refine' bw ?l ?c ?k; (case l => k_is); (case c => k_is); (case k => k_is)))
    (case Kv => k_is); (case G8 => (refine' bw ?l ?c ?k; (case l => k_is); (case c => k_is); (case k => k_is))); (case Nd => k_is); (case Ew => (refine' bw ?l ?c ?k; (case l => k_is); (case c => k_is); (case k => k_is))); (case JS => k_is); (case Gw => (refine' bw ?l ?c ?k; (case l => k_is); (case c => k_is); (case k => k_is))); (case Ie => k_is); (case Gu => (refine' bw ?l ?c ?k; (case l => k_is); (case c => k_is); (case k => k_is)))
    (case Lj => k_is); (case FY => (refine' bw ?l ?c ?k; (case l => k_is); (case c => k_is); (case k => k_is))); (case JX => k_is); (case FN => (refine' bw ?l ?c ?k; (case l => k_is); (case c => k_is); (case k => k_is))); (case LH => k_is); (case HI => (refine' bw ?l ?c ?k; (case l => k_is); (case c => k_is); (case k => k_is))); (case Ko => k_is); (case FF => (refine' bw ?l ?c ?k; (case l => k_is); (case c => k_is); (case k => k_is)))
    (case M4 => k_is); (case Ga => (refine' bw ?l ?c ?k; (case l => k_is); (case c => k_is); (case k => k_is))); (case KY => k_is); (case FV => (refine' bw ?l ?c ?k; (case l => k_is); (case c => k_is); (case k => k_is))); (case Lx => k_is); (case GQ => (refine' bw ?l ?c ?k; (case l => k_is); (case c => k_is); (case k => k_is))); (case MN => k_is); (case Gp => (refine' bw ?l ?c ?k; (case l => k_is); (case c => k_is); (case k => k_is)))
    (case Ka => k_is); (case M3 => k_is); (case MR => k_is); (case IC => k_is); (case L8 => k_is); (case FJ => (refine' bw ?l ?c ?k; (case l => k_is); (case c => k_is); (case k => k_is))); (case JD => k_is); (case MI => k_is)
    (case Kg => k_is); (case Na => k_is); (case MA => k_is); (case My => k_is); (case v11 => rfl); (case C4 => rfl); (case Mn => rfl); (case v7 => rfl)
    (case v9 => rfl); (case v10 => rfl); (case y0 => k_is); (case y1 => k_is); (case y2 => k_is); (case z0 => k_is); (case z1 => k_is); (case z2 => k_is)
    (case z3 => k_is); (case z4 => k_is); (case z5 => k_is); (case z6 => k_is); (case z7 => k_is); (case z8 => k_is); (case z9 => k_is); (case Ks => k_is)
    (case Mc => k_is); (case K6 => k_is); (case Lz => k_is); (case LR => k_is); (case MO => k_is)
