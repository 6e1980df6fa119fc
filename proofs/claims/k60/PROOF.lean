import PyProof.Rows.All
import Wide.All
import OpenK.AllK
import Wide.FinOn
import PyProof.EqAt
import PyProof.EqKinds
import PyProof.TupleCall
import PyProof.DictCompW
import PyProof.Rows.SortWalk
import OpenK.KRaise
import PyProof.ExcClass2
import KE.KTryMore
import KE.KSortTup
import KE.KIsAll
import PyProof.ListRange
import PyProof.StrBlock2
import PyProof.Rows.SetFrom
import PyProof.SetRoads
import PyProof.ReprRoads
import PyProof.CallStr
import PyProof.Rows.SortStr
import KE.KSortKey
import KE.KMinKey
import PyProof.Rows.Range3
import PyProof.Rows.IntBool
import KE.KRevIter
import PyProof.MeetsSeq
import PyProof.MinMaxWalk
import PyProof.SliceStr2
import PyProof.P3Eq
import PyProof.Rows.StrLen
import PyProof.Rows.StrCase
import PyProof.InstStoreFacts
import PyProof.ExcInit
import PyProof.StrCalls
import PyProof.DictIter
import PyProof.DictWalks
import PyProof.AutoIntG2
import PyProof.Rows.TupDisplay
import KE.KDictList
import PyProof.DictItems
import PyProof.RulesTry
import PyProof.EnumMake
import PyProof.Draws
import PyProof.FactsAll.set_1
import PyProof.IsiH_list
import KE.KDictOf
import PyProof.DictUpdate
import Lean
import PySem.Challenge.RW_oddlong_k60_readings_that_never_meet
local macro_rules | `(tactic| omega) => `(tactic| lia)
set_option Elab.async false
set_option linter.all false
set_option maxRecDepth 100000
open List renaming length_map → Ja, length_append → Jc, getElem?_eq_getElem → Jf, mem_singleton → Jg, map_append → Jh, mem_append → Ji, getElem?_map → Jj, mem_append_right → Jk, size_toArray → Jl, mem_cons_self → Jn, mem_cons_of_mem → Jp, replicate → Jq, length_take → Jr, getElem_mem → Jt, getElem?_eq_some_iff → Ju, length_cons → Jx, take_length → Jz, mem_map → J1, length_drop → J9, map_cons → Uc, mem_append_left → Ud, pairwise_append → Ue, append_assoc → Ug, append_nil → Uh, getElem?_append_right → Ui, mem_map_of_mem → Uj, mem_cons → Um, length → Ur, getElem?_append_left → Ut, filter_cons → Uw, pairwise_iff_getElem → Ux, length_replicate → Uy, lookup_cons → U0, length_pos_iff → U1, mem_iff_getElem → U2, nodup_iff_pairwise_ne → U3, length_filter_le → U5, eq_nil_of_length_eq_zero → U7, take_of_length_le → U9, Perm → Ya, mem_iff_getElem? → Yb, nodup_cons → Yd, getElem_map → Yf, replicate_succ → Yj, toList_toArray → Yk, map_map → Ym, eraseIdx_eq_take_drop_succ → Yn, filter_append → Yp, filter_nil → Yq, length_range → Yt, perm_append_comm → Yu, mem_filter → Yv, length_nil → Yx, getElem?_replicate → Yz, drop_eq_getElem_cons → Y5, take_append_drop → Y6, all_eq_true → Y8, mem_range → Y9, take_sublist → Wc, range → Wf, dropLast_concat_getLast → Wg, mem_reverse → Wi, getD_eq_getElem?_getD → Wj, of_mem_zip → Wm, mem_of_getElem? → Wo, drop_sublist → Wt, mem_of_mem_take → Wu, mem_of_mem_drop → Ww, mem_flatMap → Wy
open PySem.W renaming Frag → Jb, nsIn → J0, mg_none_of → Ul, mg_of → Uo, kia_one → Yi, kitOne → Y1, fnOf → Wz
open Nat renaming le_refl → Jd, le_trans → Js, lt_of_le_of_lt → Jy, lt_of_lt_of_le → J3, ne_of_lt → J8, zero_le → Uq, lt_of_le_of_ne → Uv, le_add_right → U4, le_of_lt → U8, add_le_add_left → Yc, min_eq_left → Ye, lt_irrefl → Yg, ne_of_gt → Yw, le_succ → Y0, le_of_eq → Y2, le_of_not_lt → Y7, le_sub_one_of_lt → Wa, sub_one_lt_of_le → Wb, add_sub_of_le → Wd, add_sub_cancel_left → We, succ_le_succ → Wh, lt_trans → Wq, lt_succ_of_lt → Wr, le_of_lt_succ → Ws, lt_of_succ_lt → Wv
open PySem.Heap renaming get?_push_of_some → Je, lt_size → Jo, get?_push_size → Jv, get?_update_other → Us, get?_update_self → Uu, SameBut → Yr, get?_update_ne → Y4, size_push → Wx
open Bool renaming false_ne_true → Jm, false_eq_true → Ua, and_eq_true → Ys
open Array renaming length_toList → Jw, getElem?_eq_getElem → Ub, getElem?_toList → Uk, toList_append → U6, getElem?_eq_none → Yh, toList_push → Yl, getElem?_eq_some_iff → Y3, perm_iff_toList_perm → Wk, size_push → Wn
open Int renaming toNat_natCast → Uz, le_refl → Yo, le_of_lt → Yy
namespace L2
set_option genSizeOf false
set_option genInjectivity false
inductive ck {α0 α1:Type}(P: α0 -> α1->Prop):Prop|mk (x0: α0) (x1: α1) (h:P x0 x1):ck P
inductive fR {α0 α1 α2:Type}(P: α0 -> α1 -> α2->Prop):Prop|mk (x0: α0) (x1: α1) (x2: α2) (h:P x0 x1 x2):fR P
inductive om {α0 α1 α2 α3:Type}(P: α0 -> α1 -> α2 -> α3->Prop):Prop|mk (x0: α0) (x1: α1) (x2: α2) (x3: α3) (h:P x0 x1 x2 x3):om P
inductive AB {α0 α1 α2 α3 α4:Type}(P: α0 -> α1 -> α2 -> α3 -> α4->Prop):Prop|mk (x0: α0) (x1: α1) (x2: α2) (x3: α3) (x4: α4) (h:P x0 x1 x2 x3 x4):AB P
inductive zW {α0 α1 α2 α3 α4 α5:Type}(P: α0 -> α1 -> α2 -> α3 -> α4 -> α5->Prop):Prop|mk (x0: α0) (x1: α1) (x2: α2) (x3: α3) (x4: α4) (x5: α5) (h:P x0 x1 x2 x3 x4 x5):zW P
inductive Hu {α0 α1 α2 α3 α4 α5 α6 α7 α8:Type}(P: α0 -> α1 -> α2 -> α3 -> α4 -> α5 -> α6 -> α7 -> α8->Prop):Prop|mk (x0: α0) (x1: α1) (x2: α2) (x3: α3) (x4: α4) (x5: α5) (x6: α6) (x7: α7) (x8: α8) (h:P x0 x1 x2 x3 x4 x5 x6 x7 x8):Hu P
set_option genSizeOf true
set_option genInjectivity true
class ae (P:Prop) (F:outParam (Prop->Prop)):Prop where
 el:P->∀G:Prop,F G->G
theorem ae.go {P:Prop}{F:Prop->Prop}[i:ae P F]{G:Prop}(k:F G):P->G:=fun h=>i.el h G k
instance (priority:=low) elimBase {P:Prop}:ae P (fun G=>P->G):=⟨fun h _ k=>k h⟩
instance JY {α:Sort u} {P: α->Prop} {F: α->Prop->Prop} [h:∀x,ae (P x) (F x)]:ae (∃x,P x) (fun G=>∀x,F x G):=⟨fun⟨x,hx⟩ G k=>(h x).el hx G (k x)⟩
instance GQ {A B:Prop} {F:Prop->Prop} [h:ae B F]:ae (A/\B) (fun G=>A->F G):=⟨fun⟨a,b⟩ G k=>h.el b G (k a)⟩
instance GP {α0 α1:Type} {P: α0 -> α1->Prop} {F: α0 -> α1->Prop->Prop} [i:∀x0 x1,ae (P x0 x1) (F x0 x1)]:ae (ck P) (fun G=>∀x0 x1,F x0 x1 G):=⟨fun⟨x0,x1,h⟩ G k=>(i x0 x1).el h G (k x0 x1)⟩
instance GX {α0 α1 α2:Type} {P: α0 -> α1 -> α2->Prop} {F: α0 -> α1 -> α2->Prop->Prop} [i:∀x0 x1 x2,ae (P x0 x1 x2) (F x0 x1 x2)]:ae (fR P) (fun G=>∀x0 x1 x2,F x0 x1 x2 G):=⟨fun⟨x0,x1,x2,h⟩ G k=>(i x0 x1 x2).el h G (k x0 x1 x2)⟩
instance G7 {α0 α1 α2 α3:Type} {P: α0 -> α1 -> α2 -> α3->Prop} {F: α0 -> α1 -> α2 -> α3->Prop->Prop} [i:∀x0 x1 x2 x3,ae (P x0 x1 x2 x3) (F x0 x1 x2 x3)]:ae (om P) (fun G=>∀x0 x1 x2 x3,F x0 x1 x2 x3 G):=⟨fun⟨x0,x1,x2,x3,h⟩ G k=>(i x0 x1 x2 x3).el h G (k x0 x1 x2 x3)⟩
instance GH {α0 α1 α2 α3 α4:Type} {P: α0 -> α1 -> α2 -> α3 -> α4->Prop} {F: α0 -> α1 -> α2 -> α3 -> α4->Prop->Prop} [i:∀x0 x1 x2 x3 x4,ae (P x0 x1 x2 x3 x4) (F x0 x1 x2 x3 x4)]:ae (AB P) (fun G=>∀x0 x1 x2 x3 x4,F x0 x1 x2 x3 x4 G):=⟨fun⟨x0,x1,x2,x3,x4,h⟩ G k=>(i x0 x1 x2 x3 x4).el h G (k x0 x1 x2 x3 x4)⟩
instance Hd {α0 α1 α2 α3 α4 α5:Type} {P: α0 -> α1 -> α2 -> α3 -> α4 -> α5->Prop} {F: α0 -> α1 -> α2 -> α3 -> α4 -> α5->Prop->Prop} [i:∀x0 x1 x2 x3 x4 x5,ae (P x0 x1 x2 x3 x4 x5) (F x0 x1 x2 x3 x4 x5)]:ae (zW P) (fun G=>∀x0 x1 x2 x3 x4 x5,F x0 x1 x2 x3 x4 x5 G):=⟨fun⟨x0,x1,x2,x3,x4,x5,h⟩ G k=>(i x0 x1 x2 x3 x4 x5).el h G (k x0 x1 x2 x3 x4 x5)⟩
instance GL {α0 α1 α2 α3 α4 α5 α6 α7 α8:Type} {P: α0 -> α1 -> α2 -> α3 -> α4 -> α5 -> α6 -> α7 -> α8->Prop} {F: α0 -> α1 -> α2 -> α3 -> α4 -> α5 -> α6 -> α7 -> α8->Prop->Prop} [i:∀x0 x1 x2 x3 x4 x5 x6 x7 x8,ae (P x0 x1 x2 x3 x4 x5 x6 x7 x8) (F x0 x1 x2 x3 x4 x5 x6 x7 x8)]:ae (Hu P) (fun G=>∀x0 x1 x2 x3 x4 x5 x6 x7 x8,F x0 x1 x2 x3 x4 x5 x6 x7 x8 G):=⟨fun⟨x0,x1,x2,x3,x4,x5,x6,x7,x8,h⟩ G k=>(i x0 x1 x2 x3 x4 x5 x6 x7 x8).el h G (k x0 x1 x2 x3 x4 x5 x6 x7 x8)⟩
open PySem PySem.Spec PyProof.Rows
noncomputable abbrev Key:=Sum Int Str
noncomputable def lZ:Key->Value->Bool
 | .inl k,v=>Value.isInt k v
 | .inr x,v=>Value.isStrOf x v
noncomputable def Kb (w:World):Key->Int
 | .inl k=>hashInt k
 | .inr x=>hashStr w x
theorem bB:∀{k:Key} {v:Value},lZ k v=true->(∃i t,k=Sum.inl i/\v=Value.int i t)∨(∃x t,k=Sum.inr x/\v=Value.str x t)
 | .inl i,v,h=>by
  obtain⟨t,e⟩:=Value.isInt_shape (k:=i) (v:=v) h
  exact .inl ⟨i,t,rfl,e⟩
 | .inr x,v,h=>by
  obtain⟨t,e⟩:=Value.isStrOf_shape (x:=x) (v:=v) h
  exact .inr ⟨x,t,rfl,e⟩
theorem uX (i:Int)(t:Tok):lZ (.inl i) (.int i t)=true:=by simp[lZ,Value.isInt]
theorem tN (x:Str)(t:Tok):lZ (.inr x) (.str x t)=true:=by simp[lZ,Value.isStrOf]
theorem A1 (a b:Int):decide ((Sum.inl a:Key)=Sum.inl b)=(a==b):=by
 by_cases e:a=b
 ·subst e;simp
 ·have h:¬(Sum.inl a:Key)=Sum.inl b:=fun q=>e (Sum.inl.inj q)
  rw[decide_eq_false h]
  exact(beq_eq_false_iff_ne.mpr e).symm
theorem CI (a b:Str):decide ((Sum.inr a:Key)=Sum.inr b)=decide (a=b):=by
 by_cases e:a=b
 ·subst e;simp
 ·have h:¬(Sum.inr a:Key)=Sum.inr b:=fun q=>e (Sum.inr.inj q)
  rw[decide_eq_false h,decide_eq_false e]
theorem BO (a:Int)(b:Str):decide ((Sum.inl a:Key)=Sum.inr b)=false:=decide_eq_false (fun q=>nomatch q)
theorem CO (a:Str)(b:Int):decide ((Sum.inr a:Key)=Sum.inl b)=false:=decide_eq_false (fun q=>nomatch q)
noncomputable def bj (prog:Program)(w:World):PySem.KeyKind prog w Key where
 is:=lZ
 hash:=Kb w
 inj:=fun v a b ha hb=>by
  rcases bB ha with ⟨i,t,rfl,rfl⟩|⟨x,t,rfl,rfl⟩
  ·rcases bB hb with ⟨j,u,rfl,e⟩|⟨y,u,rfl,e⟩
   ·injection e with e1 _;rw[e1]
   ·exact nomatch e
  ·rcases bB hb with ⟨j,u,rfl,e⟩|⟨y,u,rfl,e⟩
   ·exact nomatch e
   ·injection e with e1 _;rw[e1]
 byValue:=fun k v h=>by
  rcases bB h with ⟨i,t,rfl,rfl⟩|⟨x,t,rfl,rfl⟩<;>rfl
 pyHash:=fun hv h=>by
  rcases bB hv with ⟨i,t,rfl,rfl⟩|⟨x,t,rfl,rfl⟩
  ·exact wpAny_pyHash_int h
  ·exact wpAny_pyHash_str h
 eqBool:=fun hu hv h=>by
  rcases bB hu with ⟨i,t,rfl,rfl⟩|⟨x,t,rfl,rfl⟩
  ·rcases bB hv with ⟨j,u,rfl,rfl⟩|⟨y,u,rfl,rfl⟩
   ·rw[A1] at h;exact wpAny_eqBool_int h
   ·rw[BO] at h;exact SeqAt.EqAt.int_str i t y u _ _ _ _ h
  ·rcases bB hv with ⟨j,u,rfl,rfl⟩|⟨y,u,rfl,rfl⟩
   ·rw[CO] at h;exact SeqAt.EqAt.str_int x t j u _ _ _ _ h
   ·rw[CI] at h;exact wpAny_eqBool_str h
 «strs»:=fun k x t v h=>by
  rcases bB h with ⟨i,u,rfl,e⟩|⟨y,u,rfl,e⟩
  ·exact nomatch e
  ·injection e with e1 _
   subst e1
   cases v<;>rfl
theorem pH (prog:Program)(w:World)(i:Int)(t:Tok):(bj prog w).is (.inl i) (.int i t)=true:=uX i t
theorem oA (prog:Program)(w:World)(x:Str)(t:Tok):(bj prog w).is (.inr x) (.str x t)=true:=tN x t
inductive V where
 | non|bl (b:Bool)|int (i:Int)|str (x:Str)|byt (b:Array UInt8)|flt (b:UInt64)|ref (a:Addr)|ty (n:String)
 deriving DecidableEq
def RelV:V->Value->Prop
 | .non,u=>u=Value.none
 | .bl b,u=>u=Value.bool b
 | .int i,u=>∃t,u=Value.int i t
 | .str x,u=>∃t,u=Value.str x t
 | .byt b,u=>∃t,u=Value.bytes b t
 | .flt b,u=>∃t,u=Value.float b t
 | .ref a,u=>u=Value.ref a
 | .ty n,u=>u=Value.type n
abbrev Vals:List V->List Value->Prop:=Paired RelV
theorem Vals.length {xs:List V}{us:List Value}(r:Vals xs us):xs.length=us.length:=Paired.length r
theorem Vals.get:∀{xs:List V} {us:List Value} {i:Nat} {x:V},Vals xs us->xs[i]? = some x->∃u,us[i]? = some u/\RelV x u
 | _,_,_,_,.nil,e=>by simp at e
 | _,_,0,_,.cons r _,e=>by simp at e;subst e;exact⟨_,rfl,r⟩
 | _,_,i+1,x,.cons _ t,e=>by
  obtain⟨u,h1,h2⟩:=Vals.get (i:=i) (x:=x) t (by simpa using e)
  exact⟨u,by simpa using h1,h2⟩
theorem Vals.set {x:V}{u:Value}(r:RelV x u):∀{xs:List V} {us:List Value} (i:Nat),Vals xs us->Vals (xs.set i x) (us.set i u)
 | _,_,_,.nil =>.nil
 | _,_,0,.cons _ t =>.cons r t
 | _,_,i+1,.cons q t =>.cons q (Vals.set r i t)
theorem Vals.append {xs ys:List V}{us ws:List Value}(h:Vals xs us)(s:Vals ys ws):Vals (xs++ys) (us++ws):=by
 induction h with
 | nil=>exact s
 | cons r t ih=>exact .cons r ih
theorem Vals.take:∀{xs:List V} {us:List Value} (n:Nat),Vals xs us->Vals (xs.take n) (us.take n)
 | _,_,0,_ =>.nil
 | _,_,_+1,.nil =>.nil
 | _,_,n+1,.cons r t =>.cons r (Vals.take n t)
theorem Vals.drop:∀{xs:List V} {us:List Value} (n:Nat),Vals xs us->Vals (xs.drop n) (us.drop n)
 | _,_,0,r=>r
 | _,_,_+1,.nil =>.nil
 | _,_,n+1,.cons _ t=>Vals.drop n t
def kK:Option V->Option Value->Prop
 | some v,some u=>RelV v u
 | none,none=>True
 | _,_=>False
def KV {κ:Type}:List (κ×V)->List (κ×Value)->Prop:=Paired fun(p: κ×V) (q: κ×Value)=>p.1=q.1/\RelV p.2 q.2
noncomputable def kV:Key->V
 | .inl i =>.int i
 | .inr x =>.str x
inductive HO where
 | lst (xs:List V)
 | tup (xs:List V)
 | dK (kvs:List (Key×V))|dT (kvs:List (List Key×V))
 | set (S:Int->Bool) (n:Nat)
 | ins (C dx:Addr) (fs:List (Str×V))
 | own (x:Addr)
 | xd (fs:List (Str×V))
 | met (f x:Addr)
 | rng (lo hi:Int)
 | frz (o:Obj) (u:HO)
 | tbl (ps:Array Value)
 | ext (φ:Heap->Prop)
noncomputable abbrev Hp:=Addr->Option HO
noncomputable def upd (H:Hp)(a:Addr)(o:HO):Hp:=fun b=>if b=a then some o else H b
theorem aJ {H:Hp}{a:Addr}{o:HO}:upd H a o a=some o:=by unfold upd;rw[if_pos rfl]
theorem aq {H:Hp}{a b:Addr}{o:HO}(h:b≠a):upd H a o b=H b:=by unfold upd;rw[if_neg h]
theorem tF {H:Hp}{a:Addr}{o u:HO}:upd (upd H a o) a u=upd H a u:=by
 funext b;unfold upd;split<;>rfl
theorem wq {H:Hp}{a b:Addr}{o u:HO}(h:H a=some o)(h':H b=some u)(d:o≠u):a≠b:=by
 intro e;subst e;rw[h] at h';exact d (Option.some.inj h')
theorem aj {H:Hp}{a b:Addr}{o:HO}(h:H a=some o)(h':H b=none):a≠b:=by
 intro e;subst e;rw[h] at h';cases h'
section
variable (P:Program)(w:World)
def bo (H:Hp)(h:Heap)(a:Addr):HO->Prop
 | .lst xs=>xs.length<=sizeLine/\ck fun(av:List Value) (n:Nat)=>Vals xs av/\h.get? a=some { cls := .type "list",data := .seq av.toArray n }
 | .tup xs=>xs.length<=sizeLine/\∃av:List Value,Vals xs av/\IsTup h a av.toArray
 | .dK kvs=>kvs.length<=sizeLine/\(a==sysModules)=false/\∃vs,KV kvs vs/\h.DictOf (bj P w) a vs
 | .dT kvs=>kvs.length<=sizeLine/\(a==sysModules)=false/\∃xs:List (List Key×Addr×Value),
   Paired (fun(p:List Key×V) (q:List Key×Addr×Value)=>p.1=q.1/\H q.2.1=some (.tup (p.1.map kV))/\RelV p.2 q.2.2) kvs xs /\
   fR fun o es ep=>h.get? a=some o/\o.ExactDict/\o.data = .dict es ep/\es.toList=xs.map (entryOfKey (tupleKind (bj P w)))/\(xs.map (·.1)).Nodup
 | .set S n=>h.SetOf (intKind P w) a S n
 | .ins C dx fs=>H dx=some (.own a)/\fs.length<=1000/\dx≠a/\h.get? a=some (PySem.W.instObj C dx) /\
   ∃mA,h.Ns1 dx mA/\(∀f,kK (fs.lookup f) (mA f))/\PySem.Within mA (fs.map (·.1))
 | .own _=>∃o,h.get? a=some o
 | .xd fs=>∃mA,h.Ns1 a mA/\∀f,kK (fs.lookup f) (mA f)
 | .rng lo hi=>fR fun t u v=>h.get? a=some { cls := .type "range",data := .fields #[.int lo t,.int hi u,.int 1 v] }
 | .frz o u=>h.get? a=some o/\bo H h a u
 | .tbl ps=>h.get? a=some { cls := .none,data := .fields ps }
 | .met f x=>h.get? a=some (PySem.W.methodObj (.ref f) (.ref x))
 | .ext φ => φ h/\(∃o,h.get? a=some o)/\∀h1 h2:Heap, φ h1->(∀o,h1.get? a=some o->h2.get? a=some o) -> φ h2
def eK (H:Hp)(h:Heap):Prop:=∀a o,H a=some o->bo P w H h a o
end
section
variable {P:Program}{w:World}{H H':Hp}{h h':Heap}{a:Addr}{o:HO}
theorem bo.lt (x:bo P w H h a o):a<h.objs.size:=by
 cases o with
 | lst xs=>obtain⟨_,_,_,_,e⟩:=x;exact Jo e
 | tup xs=>obtain⟨_,_,_,p⟩:=x;exact p.lt
 | dK kvs=>obtain⟨_,_,_,_,o,_,_,e,_⟩:=x;exact Jo e
 | dT kvs=>obtain⟨_,_,_,_,o,_,_,e,_⟩:=x;exact Jo e
 | set S n=>obtain⟨o,_,_,_,e,_⟩:=x;exact Jo e
 | ins C dx fs=>obtain⟨_,_,_,e,_⟩:=x;exact Jo e
 | own y=>obtain⟨_,e⟩:=x;exact Jo e
 | xd fs=>obtain⟨_,⟨_,_,_,e,_⟩,_⟩:=x;exact Jo e
 | rng lo hi=>obtain⟨_,_,_,e⟩:=x;exact Jo e
 | frz ob u=>obtain⟨e,_⟩:=x;exact Jo e
 | tbl ps=>exact Jo (show h.get? a=some _ from x)
 | met f y=>exact Jo (show h.get? a=some _ from x)
 | ext φ=>obtain⟨_,⟨_,e⟩,_⟩:=x;exact Jo e
theorem Paired.Br {α β:Type}{F G: α -> β->Prop}{l₁:List α}{l₂:List β}(h:Paired F l₁ l₂)(f:∀a b,F a b->G a b):Paired G l₁ l₂:=by
 induction h with
 | nil=>exact .nil
 | cons r t ih=>exact .cons (f _ _ r) ih
theorem Paired.imp' {α β:Type}{F G: α -> β->Prop}(f:∀a b,F a b->G a b){l₁:List α}{l₂:List β}(r:Paired F l₁ l₂):Paired G l₁ l₂:=Paired.Br r f
theorem bo.fP (x:bo P w H h a o)(k:∀b u,(b=a∨H b=some (.own a))->h.get? b=some u->h'.get? b=some u)
  (ho:∀b,H b=some (.own a)->H' b=some (.own a)) (ht:∀b xs,H b=some (.tup xs)->H' b=some (.tup xs)):bo P w H' h' a o:=by
 induction o with
 | lst xs=>obtain⟨z,av,n,r,e⟩:=x;exact⟨z,av,n,r,k _ _ (.inl rfl) e⟩
 | tup xs=>obtain⟨z,av,r,ob,e,c⟩:=x;exact⟨z,av,r,ob,k _ _ (.inl rfl) e,c⟩
 | dK kvs=>obtain⟨z,y,vs,r,ob,es,ep,e,c⟩:=x;exact⟨z,y,vs,r,ob,es,ep,k _ _ (.inl rfl) e,c⟩
 | dT kvs=>
  obtain⟨z,y,xs,r,ob,es,ep,e,c⟩:=x
  exact⟨z,y,xs,Paired.Br r fun p q z=>⟨z.1,ht _ _ z.2.1,z.2.2⟩,ob,es,ep,k _ _ (.inl rfl) e,c⟩
 | set S n=>obtain⟨ob,es,ep,t,e,c⟩:=x;exact⟨ob,es,ep,t,k _ _ (.inl rfl) e,c⟩
 | ins C dx fs=>
  obtain⟨d,z,ne,e,mA,⟨od,es,ep,e2,c⟩,r⟩:=x
  exact⟨ho _ d,z,ne,k _ _ (.inl rfl) e,mA,⟨od,es,ep,k _ _ (.inr d) e2,c⟩,r⟩
 | own y=>obtain⟨ob,e⟩:=x;exact⟨ob,k _ _ (.inl rfl) e⟩
 | xd fs=>obtain⟨mA,⟨od,es,ep,e,c⟩,r⟩:=x;exact⟨mA,⟨od,es,ep,k _ _ (.inl rfl) e,c⟩,r⟩
 | rng lo hi=>obtain⟨t,u,v,e⟩:=x;exact⟨t,u,v,k _ _ (.inl rfl) e⟩
 | frz ob u ih=>obtain⟨e,q⟩:=x;exact⟨k _ _ (.inl rfl) e,ih q⟩
 | tbl ps=>
  have e:h.get? a=some { cls := .none,data := .fields ps }:=x
  show h'.get? a=some { cls := .none,data := .fields ps }
  exact k a _ (.inl rfl) e
 | met f y=>
  have e:h.get? a=some (PySem.W.methodObj (.ref f) (.ref y)):=x
  show h'.get? a=some (PySem.W.methodObj (.ref f) (.ref y))
  exact k a _ (.inl rfl) e
 | ext φ=>obtain⟨p,⟨o,e⟩,st⟩:=x;exact⟨st _ _ p fun o q=>k _ _ (.inl rfl) q,⟨o,k _ _ (.inl rfl) e⟩,st⟩
theorem eK.lt (x:eK P w H h)(e:H a=some o):a<h.objs.size:=(x a o e).lt
theorem eK.fresh (x:eK P w H h)(e:h.objs.size<=a):H a=none:=by
 cases q:H a with
 | none=>rfl
 | some u=>exact absurd (J3 (x.lt q) e) (Yg _)
theorem eK.kept (x:eK P w H h)(k:∀b u,h.get? b=some u->h'.get? b=some u):eK P w H h':=fun a o e=>
 (x a o e).fP (fun b u _ q=>k b u q) (fun _ q=>q) fun _ _ q=>q
theorem eK.laid (x:eK P w H h)(k:∀b u,h.get? b=some u->h'.get? b=some u)(hp:h.objs.size<=a)(new:bo P w (upd H a o) h' a o):eK P w (upd H a o) h':=fun b u e=>by
 have hn:=x.fresh hp
 by_cases hb:b=a
 ·subst hb;rw[aJ] at e;cases e;exact new
 ·rw[aq hb] at e
  exact(x b u e).fP (fun c v _ q=>k c v q) (fun c q=>by rw[aq (aj q hn)];exact q) fun c xs q=>by rw[aq (aj q hn)];exact q
end
def Rd (H:Hp)(a:Addr)(u:HO):Prop:=H a=some u∨∃o,H a=some (.frz o u)
theorem Rd.ok {P:Program}{w:World}{H:Hp}{h:Heap}{a:Addr}{u:HO}(r:Rd H a u)(x:eK P w H h):bo P w H h a u:=by
 rcases r with r|⟨o,r⟩
 ·exact x a u r
 ·obtain⟨_,q⟩:=x a _ r
  exact q
def EV:Option HO->Prop
 | some (.lst _)=>True
 | some (.dK _)=>True
 | some (.dT _)=>True
 | some (.set _ _)=>True
 | some (.ins _ _ _)=>True
 | some (.ext _)=>True
 | _=>False
section
variable {P:Program}{w:World}{H:Hp}{h h':Heap}{x e:Addr}{o':HO}
theorem eK.write (ok:eK P w H h)(mu:EV (H x))(he:e=x∨H e=some (.own x))(k:∀b u,b≠e->h.get? b=some u->h'.get? b=some u)(C8:∃u,h'.get? e=some u)
  (new:bo P w (upd H x o') h' x o'):eK P w (upd H x o') h':=fun b u q=>by
 have EN:∀c y,H c=some (.own y)->c≠x:=fun c y r z=>by subst z;rw[r] at mu;exact mu
 have JH:∀c xs,H c=some (.tup xs)->c≠x:=fun c xs r z=>by subst z;rw[r] at mu;exact mu
 by_cases hb:b=x
 ·subst hb;rw[aJ] at q;cases q;exact new
 ·rw[aq hb] at q
  by_cases hbe:b=e
  ·have q':H b=some (.own x):=by
    rcases he with z|z
    ·exact absurd (hbe.trans z) hb
    ·rw[hbe];exact z
   rw[q] at q';cases q'
   obtain⟨v,hv⟩:=C8
   exact⟨v,by rw[hbe];exact hv⟩
  ·refine(ok b u q).fP (fun c v hc r=>k c v ?_ r) (fun c r=>by rw[aq (EN c b r)];exact r) fun c xs r=>by rw[aq (JH c xs r)];exact r
   rcases hc with rfl|hc
   ·exact hbe
   ·rintro rfl
    rcases he with z|z
    ·exact EN c b hc z
    ·rw[hc] at z;cases z;exact hb rfl
end
structure Un (fs ex:List Addr)(H H':Hp)(h h':Heap):Prop where
 keep:∀b o,h.get? b=some o->H b=none->b∉fs->b∉ex->h'.get? b=some o
 slot:∀b o,h.get? b=some o->H b=none->b∈fs->b∉ex->∃sl,h'.get? b=some { o with slots:=sl }
 free:∀b o,h.get? b=some o->H b=none->b∉ex->H' b=none
 there:∀b o,h.get? b=some o->b∉ex->∃o',h'.get? b=some o'
 fU:∀b xs,H b=some (.tup xs)->H' b=some (.tup xs)
 eV:∀b o u,H b=some (.frz o u)->H' b=some (.frz o u)
 gF:∀b ps,H b=some (.tbl ps)->∃more,H' b=some (.tbl (ps++more))
section
variable {fs mP ex P4:List Addr}{H H1 H2:Hp}{h h1 h2 h':Heap}{a x e:Addr}{o:HO}
theorem Un.any (u:Un fs ex H H1 h h1){b:Addr}{ob:Obj}(q:h.get? b=some ob)(n:H b=none)(hx:b∉ex):∃sl,h1.get? b=some { ob with slots:=sl }:=by
 by_cases hb:b∈fs
 ·exact u.slot b ob q n hb hx
 ·exact⟨ob.slots,u.keep b ob q n hb hx⟩
theorem Un.trans (a:Un fs ex H H1 h h1)(b:Un fs ex H1 H2 h1 h2):Un fs ex H H2 h h2 where
 keep:=fun c ob q n hc hx=>b.keep c ob (a.keep c ob q n hc hx) (a.free c ob q n hx) hc hx
 slot:=fun c ob q n hc hx=>by
  obtain⟨sl,e1⟩:=a.slot c ob q n hc hx
  obtain⟨Dt,e2⟩:=b.slot c _ e1 (a.free c ob q n hx) hc hx
  exact⟨Dt,e2⟩
 free:=fun c ob q n hx=>by
  obtain⟨o',e1⟩:=a.there c ob q hx
  exact b.free c o' e1 (a.free c ob q n hx) hx
 there:=fun c ob q hx=>by
  obtain⟨o',e1⟩:=a.there c ob q hx
  exact b.there c o' e1 hx
 fU:=fun c xs q=>b.fU c xs (a.fU c xs q)
 eV:=fun c ob xs q=>b.eV c ob xs (a.eV c ob xs q)
 gF:=fun c ps q=>by
  obtain⟨m1,e1⟩:=a.gF c ps q
  obtain⟨m2,e2⟩:=b.gF c _ e1
  exact⟨m1++m2,by rw[e2,Array.append_assoc]⟩
theorem Un.kept (k:∀b u,h.get? b=some u->h'.get? b=some u):Un fs ex H H h h':=
 ⟨fun b ob q _ _ _=>k b ob q,fun b ob q _ _ _=>⟨ob.slots,k b ob q⟩,fun _ _ _ n _=>n,fun b ob q _=>⟨ob,k b ob q⟩,fun _ _ q=>q,fun _ _ _ q=>q,fun _ ps q=>⟨#[],by rw[q];simp⟩⟩
theorem Un.refl:Un fs ex H H h h:=Un.kept fun _ _ q=>q
theorem Un.laid (k:∀b u,h.get? b=some u->h'.get? b=some u)(hp:h.objs.size<=a)(hn:H a=none):Un fs ex H (upd H a o) h h' where
 keep:=fun b u q _ _ _=>k b u q
 slot:=fun b u q _ _ _=>⟨u.slots,k b u q⟩
 free:=fun b u q n _=>by rw[aq (J8 (J3 (Jo q) hp))];exact n
 there:=fun b u q _=>⟨u,k b u q⟩
 fU:=fun b xs q=>by rw[aq (aj q hn)];exact q
 eV:=fun b u xs q=>by rw[aq (aj q hn)];exact q
 gF:=fun b ps q=>⟨#[],by rw[aq (aj q hn),q];simp⟩
theorem Un.write (mu:EV (H x))(he:e=x∨H e=some (.own x))(k:∀b u,b≠e->h.get? b=some u->h'.get? b=some u)(C8:∃u,h'.get? e=some u):Un fs ex H (upd H x o) h h':=by
 have hx:∀b,H b=none->b≠x:=fun b n z=>by subst z;rw[n] at mu;exact mu
 have hb:∀b,H b=none->b≠e:=fun b n z=>by
  subst z
  rcases he with r|r
  ·exact hx b n r
  ·rw[n] at r;cases r
 have hm:∀b u,H b=some u->¬EV (some u)->b≠x:=fun b u q nm z=>by subst z;rw[q] at mu;exact nm mu
 refine⟨fun b u q n _ _=>k b u (hb b n) q,fun b u q n _ _=>⟨u.slots,k b u (hb b n) q⟩,fun b u q n _=>by rw[aq (hx b n)];exact n,fun b u q _ =>?_,
  fun b xs q=>by rw[aq (hm b _ q fun z=>z)];exact q,fun b u xs q=>by rw[aq (hm b _ q fun z=>z)];exact q,fun b ps q=>⟨#[],by rw[aq (hm b _ q fun z=>z),q];simp⟩⟩
 by_cases hbe:b=e
 ·subst hbe;exact C8
 ·exact⟨u,k b u hbe q⟩
end
noncomputable def G9 (h:Heap)(H:Hp):List Addr:=(Wf h.objs.size).filter fun a=>(H a).isSome
noncomputable def nW (h:Heap)(H:Hp):Heap:=PySem.W.hideAll h (G9 h H)
theorem u4 (h:Heap)(H:Hp):(nW h H).objs.size=h.objs.size:=PySem.W.hideAll_size _ _
theorem wY {h:Heap}{H:Hp}{b:Addr}{o:Obj}(e:h.get? b=some o)(n:H b=none):(nW h H).get? b=some o:=
 PySem.W.hideAll_get _ e fun hm=>by
  have q:(H b).isSome=true:=(Yv.mp hm).2
  rw[n] at q;simp at q
theorem ym {h:Heap}{H:Hp}{b:Addr}{o:Obj}(e:(nW h H).get? b=some o):h.get? b=some o/\H b=none:=by
 have e':h.get? b=some o:=PySem.W.of_hideAll (G9 h H) e
 refine⟨e',?_⟩
 cases q:H b with
 | none=>rfl
 | some x=>
  have hm:b∈G9 h H:=Yv.mpr ⟨Y9.mpr (Jo e'),by simp[q]⟩
  have z:(nW h H).get? b=none:=PySem.W.hideAll_none (G9 h H) hm
  rw[z] at e;cases e
structure Mod (K:Jb)(mg:Str->Option Value)(base:Heap):Prop where
 kin:K.In base
 glob:base.Ns mainGlobals mg
 blt:∃mb,base.Ns builtinsNs mb/\∀x:Str,x ≠ "__name__" -> mb x=bootBuiltins x
 nolimit:base.NoLimit
structure Cx where
 prog:Program
 w:World
 K:Jb
 mg:Str->Option Value
 base:Heap
 A:Around
 N:List Str
 s₀:Shared
 H₀:Hp
 env:Env
 outer:List Env
 stack:List Env
 ex:List Addr
 fn:Str->Bool
 calm:Bool
 pn:List (Addr×Obj)
 xe:Value->Shared->Prop
noncomputable def i8 (l:List Env):List Addr:=l.filterMap (·.frame)
noncomputable abbrev Cx.fs (X:Cx):List Addr:=i8 X.outer
def C6 (sc:Scope)(x:Str):Prop:=sc.names.lookup x=some .local∨sc.names.lookup x=some .cell∨sc.names.lookup x=some .free
def Loc (sc:Scope)(x:Str):Prop:=sc.names.lookup x=some .local∨sc.names.lookup x=some .cell
def Look (env:Env)(h:Heap)(m:Str->Option Value)(x:Str)(u:Value):Prop:=
 (env.kindOf x=some .local/\m x=some u)∨((env.kindOf x=some .cell∨env.kindOf x=some .free)/\∃c,env.cells.lookup x=some c/\h.IsCell c (some u))
structure Cx.Ok (X:Cx):Prop where
 mod:Mod X.K X.mg X.base
 kind:X.env.scope.kind = .function
 glob:X.env.globals=mainGlobals
 blt:X.env.builtins=builtinsNs
 above:X.s₀.heap.objs.size<=X.env.locals
 inj:∀x y c,X.env.cells.lookup x=some c->X.env.cells.lookup y=some c->x=y
 has:∀x,(X.env.kindOf x=some .cell∨X.env.kindOf x=some .free)->∃c,X.env.cells.lookup x=some c
 cab:∀x c,X.fn x=true->X.env.cells.lookup x=some c->X.s₀.heap.objs.size<=c
 hd:X.calm=true->X.A.handled=none
 frames:X.A.frames=some X.stack
 stk:X.stack=X.outer∨(X.stack=X.env::X.outer/\X.env.frame=some X.env.locals)
 exf:∀b∈X.ex,b≠X.env.locals/\∀x c,X.env.cells.lookup x=some c->c≠b
 bs:∀b o,X.base.get? b=some o->X.s₀.heap.get? b=some o/\X.H₀ b=none
 bsz:X.base.objs.size<=X.s₀.heap.objs.size
 noex:∀b o,X.base.get? b=some o->b∉X.ex
 exfs:∀b∈X.ex,b∉X.fs
 g5:X.s₀.heap.FunFrames X.base X.outer
 qP:∀b∈X.fs,X.H₀ b=none
structure Inv (X:Cx)(pins:List (Addr×Obj))(σ:List (Option V))(H:Hp)(s:Shared):Prop where
 ok:X.Ok
 os:s.os=X.s₀.os
 bare:AllBare s.gens
 base:Un X.fs X.ex X.H₀ H X.s₀.heap s.heap
 loc:∃m,s.heap.Ns X.env.locals m/\∀(i:Nat) (x:Str) (v:V),X.N[i]? = some x -> σ[i]? = some (some v)->C6 X.env.scope x->∃u,RelV v u/\Look X.env s.heap m x u
 cell:∀x c,X.env.cells.lookup x=some c->∃v,s.heap.IsCell c v
 free:H X.env.locals=none
 freeC:∀x c,X.env.cells.lookup x=some c->H c=none
 pin:∀p∈X.pn++pins,s.heap.get? p.1=some p.2/\H p.1=none/\p.1≠X.env.locals/\p.1∉X.fs/\∀v,p.2.data ≠ .cell v
 aZ:eK X.prog X.w H s.heap
 len: σ.length=X.N.length
section
variable {X:Cx}{pins:List (Addr×Obj)}{σ:List (Option V)}{H H':Hp}{s:Shared}{h':Heap}
theorem Cx.Ok.Il (ok:X.Ok){b:Addr}{o:Obj}(e:X.base.get? b=some o):b∉X.fs:=fun hb=>by
 have:=(ok.g5.mem hb).1
 rw[e] at this;cases this
theorem Inv.bs (I:Inv X pins σ H s):∀b o,X.base.get? b=some o->s.heap.get? b=some o/\H b=none:=fun b o e=>
 ⟨I.base.keep b o (I.ok.bs b o e).1 (I.ok.bs b o e).2 (I.ok.Il e) (I.ok.noex b o e),I.base.free b o (I.ok.bs b o e).1 (I.ok.bs b o e).2 (I.ok.noex b o e)⟩
theorem Inv.bk (I:Inv X pins σ H s):∀b o,X.base.get? b=some o->s.heap.get? b=some o:=fun b o e=>(I.bs b o e).1
theorem Inv.mod (I:Inv X pins σ H s):Mod X.K X.mg X.base:=I.ok.mod
theorem Inv.lV (I:Inv X pins σ H s):X.K.In s.heap:=I.ok.mod.kin.keeps I.bk
theorem Inv.lt (I:Inv X pins σ H s):X.env.locals<s.heap.objs.size:=let ⟨_,hn,_⟩:=I.loc;hn.lt
theorem Inv.sz (I:Inv X pins σ H s):X.s₀.heap.objs.size<=s.heap.objs.size:=Js I.ok.above (U8 I.lt)
theorem Inv.Eg (I:Inv X pins σ H s){a:Addr}(h:s.heap.objs.size<=a):a∉X.fs:=fun hb=>by
 obtain⟨_,o,ho,_⟩:=I.ok.g5.mem hb
 exact absurd (J3 (Jo ho) (Js I.sz h)) (Yg _)
theorem Inv.Bw (I:Inv X pins σ H s):∀x c,X.env.cells.lookup x=some c->c≠X.env.locals:=fun x c e z=>by
 obtain⟨v,o,ho,hd⟩:=I.cell x c e
 obtain⟨m,⟨o',es,ep,rB,hd',_⟩,_⟩:=I.loc
 rw[z,rB] at ho;cases ho;rw[hd'] at hd;cases hd
theorem Inv.g5 (I:Inv X pins σ H s):s.heap.FunFrames X.base X.outer:=by
 have all:∀(l:List Env),(∀b∈i8 l,b∈X.fs)->X.s₀.heap.FunFrames X.base l->s.heap.FunFrames X.base l:=by
  intro l
  induction l with
  | nil=>intro _ _;trivial
  | cons env r ih=>
   intro hs hl
   obtain⟨hk,⟨L,o,hf,hn,ho,hd⟩,hr⟩:=hl
   have hL:L∈X.fs:=hs L (by unfold i8;rw[List.filterMap_cons,hf];exact Jn)
   obtain⟨sl,e⟩:=I.base.slot L o ho (I.ok.qP L hL) hL fun z=>I.ok.exfs L z hL
   exact⟨hk,⟨L,_,hf,hn,e,hd⟩,ih (fun b hb=>hs b (by unfold i8;rw[List.filterMap_cons,hf];exact Jp _ hb)) hr⟩
 exact all X.outer (fun _ hb=>hb) I.ok.g5
theorem Inv.stack (I:Inv X pins σ H s):s.heap.FunFrames X.base X.stack:=by
 rcases I.ok.stk with e|⟨e,hf⟩
 ·rw[e];exact I.g5
 ·rw[e]
  obtain⟨m,hn,_⟩:=I.loc
  refine .cons (by rw[I.ok.kind];decide) hf hn ?_ I.g5
  exact Heap.get?_none_of_le (Js I.ok.bsz I.ok.above)
theorem Inv.nv (I:Inv X pins σ H s):∀b∈i8 X.stack,b∈X.env.locals::X.fs:=fun b hb=>by
 rcases I.ok.stk with e|⟨e,hf⟩
 ·rw[e] at hb;exact Jp _ hb
 ·rw[e] at hb
  unfold i8 at hb
  rw[List.filterMap_cons,hf] at hb
  exact hb
theorem Inv.rZ (I:Inv X pins σ H s):∀b∈i8 X.stack,H b=none:=fun b hb=>by
 rcases Um.mp (I.nv b hb) with e|hb
 ·rw[e];exact I.free
 ·obtain⟨_,o,ho,_⟩:=I.ok.g5.mem hb
  exact I.base.free b o ho (I.ok.qP b hb) fun z=>I.ok.exfs b z hb
theorem Inv.step {g':Array GenState}{t':Nat}{d':Drawn}{ch:List Addr}(I:Inv X pins σ H s)
  (qo:∀b∈ch,(b∈X.ex∨X.s₀.heap.objs.size<=b)/\b≠X.env.locals/\(∀x c,X.env.cells.lookup x=some c->c≠b)/\∀p∈X.pn++pins,p.1≠b)
  (keep:∀b o,b≠X.env.locals->b∉X.fs->b∉ch->s.heap.get? b=some o->H b=none->h'.get? b=some o)
  (slot:∀b o,b≠X.env.locals->b∈X.fs->b∉ch->s.heap.get? b=some o->H b=none->∃sl,h'.get? b=some { o with slots:=sl }) (free:∀b o,b∉ch->s.heap.get? b=some o->H b=none->H' b=none)
  (there:∀b o,b∉ch->s.heap.get? b=some o->∃o',h'.get? b=some o')
  (fU:∀b xs,H b=some (.tup xs)->H' b=some (.tup xs)) (eV:∀b o u,H b=some (.frz o u)->H' b=some (.frz o u)) (gF:∀b ps,H b=some (.tbl ps)->∃more,H' b=some (.tbl (ps++more)))
  (ns:∀m,s.heap.Ns X.env.locals m->h'.Ns X.env.locals m) (aZ:eK X.prog X.w H' h') (hg:AllBare g') :
  Inv X pins σ H' { s with heap:=h',gens:=g',drawn:=d',toks:=t' }:=by
 have Mv:∀b o,X.s₀.heap.get? b=some o->b≠X.env.locals:=fun b o e=>J8 (J3 (Jo e) I.ok.above)
 have Hl:∀b o,X.s₀.heap.get? b=some o->b∉X.ex->b∉ch:=fun b o e hx hb=>by
  rcases(qo b hb).1 with z|z
  ·exact hx z
  ·exact absurd (J3 (Jo e) z) (Yg _)
 have cellK:∀x c,X.env.cells.lookup x=some c->∀v,s.heap.IsCell c v->h'.IsCell c v:=fun x c e v ⟨o,ho,hd⟩=>by
  have E8:c∉ch:=fun z=>(qo c z).2.2.1 x c e rfl
  by_cases hc:c∈X.fs
  ·obtain⟨sl,q⟩:=slot c o (I.Bw x c e) hc E8 ho (I.freeC x c e)
   exact⟨_,q,hd⟩
  ·exact⟨o,keep c o (I.Bw x c e) hc E8 ho (I.freeC x c e),hd⟩
 refine⟨I.ok,I.os,hg,⟨fun b o e n hb hx =>?_,fun b o e n hb hx =>?_,fun b o e n hx =>?_,fun b o e hx =>?_,fun b xs e=>fU b xs (I.base.fU b xs e),fun b o xs e=>eV b o xs (I.base.eV b o xs e),fun b ps e =>?_⟩,?_,fun x c e =>?_,?_,fun x c e =>?_,fun p hp =>?_,aZ,I.len⟩
 ·exact keep b o (Mv b o e) hb (Hl b o e hx) (I.base.keep b o e n hb hx) (I.base.free b o e n hx)
 ·obtain⟨sl,e1⟩:=I.base.slot b o e n hb hx
  obtain⟨Dt,e2⟩:=slot b _ (Mv b o e) hb (Hl b o e hx) e1 (I.base.free b o e n hx)
  exact⟨Dt,e2⟩
 ·obtain⟨o',e1⟩:=I.base.there b o e hx
  exact free b o' (Hl b o e hx) e1 (I.base.free b o e n hx)
 ·obtain⟨o',e1⟩:=I.base.there b o e hx
  exact there b o' (Hl b o e hx) e1
 ·obtain⟨m1,e1⟩:=I.base.gF b ps e
  obtain⟨m2,e2⟩:=gF b _ e1
  exact⟨m1++m2,by rw[e2,Array.append_assoc]⟩
 ·obtain⟨m,hn,hl⟩:=I.loc
  refine⟨m,ns m hn,fun i x v e1 e2 e3 =>?_⟩
  obtain⟨u,r,l⟩:=hl i x v e1 e2 e3
  refine⟨u,r,?_⟩
  rcases l with l|⟨k,c,e,z⟩
  ·exact .inl l
  ·exact .inr ⟨k,c,e,cellK x c e _ z⟩
 ·obtain⟨v,z⟩:=I.cell x c e
  exact⟨v,cellK x c e v z⟩
 ·obtain⟨m,⟨o,_,_,ho,_⟩,_⟩:=I.loc
  exact free _ o (fun z=>(qo _ z).2.1 rfl) ho I.free
 ·obtain⟨v,o,ho,hd⟩:=I.cell x c e
  exact free c o (fun z=>(qo c z).2.2.1 x c e rfl) ho (I.freeC x c e)
 ·obtain⟨e,n,ne,nf,d⟩:=I.pin p hp
  have E8:p.1∉ch:=fun z=>(qo p.1 z).2.2.2 p hp rfl
  exact⟨keep p.1 p.2 ne nf E8 e n,free p.1 p.2 E8 e n,ne,nf,d⟩
theorem Inv.un {t':Nat}(I:Inv X pins σ H s)(u:Un X.fs [] H H' s.heap h')(aZ:eK X.prog X.w H' h'):Inv X pins σ H' { s with heap:=h',toks:=t' }:=by
 obtain⟨m,⟨o,es,ep,ho,r⟩,_⟩:=id I.loc
 obtain⟨sl,hL⟩:=u.any ho I.free (by simp)
 exact I.step (g':=s.gens) (d':=s.drawn) (ch:=[]) (fun _ z=>nomatch z) (fun b o _ hb _ e n=>u.keep b o e n hb (by simp)) (fun b o _ hb _ e n=>u.slot b o e n hb (by simp)) (fun b o _ e n=>u.free b o e n (by simp)) (fun b o _ e=>u.there b o e (by simp)) u.fU u.eV u.gF (fun m' hm=>by
  obtain⟨o',es',ep',rB,r'⟩:=hm
  rw[ho] at rB;cases rB
  exact⟨_,es',ep',hL,r'⟩) aZ I.bare
theorem Inv.call {g':Array GenState}{t':Nat}{d':Drawn}{ch:List Addr}(I:Inv X pins σ H s)(u:Un (i8 X.stack) ch H H' s.heap h')(aZ:eK X.prog X.w H' h')(hg:AllBare g')
  (qo:∀b∈ch,(b∈X.ex∨X.s₀.heap.objs.size<=b)/\b≠X.env.locals/\(∀x c,X.env.cells.lookup x=some c->c≠b)/\∀p∈X.pn++pins,p.1≠b) :
  Inv X pins σ H' { s with heap:=h',gens:=g',drawn:=d',toks:=t' }:=by
 obtain⟨m,⟨o,es,ep,ho,r⟩,_⟩:=id I.loc
 obtain⟨sl,hL⟩:=u.any ho I.free fun z=>(qo _ z).2.1 rfl
 exact I.step (ch:=ch) qo (fun b o hL hb hc e n=>u.keep b o e n (fun z=>(Um.mp (I.nv b z)).elim hL hb) hc) (fun b o _ _ hc e n=>u.any e n hc) (fun b o hc e n=>u.free b o e n hc) (fun b o hc e=>u.there b o e hc) u.fU u.eV u.gF (fun m' hm=>by
  obtain⟨o',es',ep',rB,r'⟩:=hm
  rw[ho] at rB;cases rB
  exact⟨_,es',ep',hL,r'⟩) aZ hg
theorem Inv.turned {t':Nat}{it:Addr}(I:Inv X pins σ H s)(k:∀b o,b≠it->s.heap.get? b=some o->h'.get? b=some o)(hn:H it=none)(hL:it≠X.env.locals)
  (h1:it∈X.ex∨X.s₀.heap.objs.size<=it) (h2:∀x c,X.env.cells.lookup x=some c->c≠it) (h3:∀p∈X.pn++pins,p.1≠it):Inv X pins σ H { s with heap:=h',toks:=t' }:=by
 have MQ:∀b u,H b=some u->b≠it:=fun b u e z=>by rw[z,hn] at e;cases e
 refine I.step (g':=s.gens) (d':=s.drawn) (ch:=[it]) (fun b hb =>?_) (fun b o _ _ hc e _=>k b o (fun z=>hc (by simp[z])) e) (fun b o _ _ hc e _=>⟨o.slots,k b o (fun z=>hc (by simp[z])) e⟩) (fun _ _ _ _ n=>n)
  (fun b o hc e=>⟨o,k b o (fun z=>hc (by simp[z])) e⟩) (fun _ _ e=>e) (fun _ _ _ e=>e) (fun b ps e=>⟨#[],by rw[e];simp⟩) (fun m hm =>?_) (fun b u e =>?_) I.bare
 ·have e:b=it:=by simpa using hb
  subst e
  exact⟨h1,hL,h2,h3⟩
 ·obtain⟨o,es,ep,ho,r⟩:=hm
  exact⟨o,es,ep,k _ o (Ne.symm hL) ho,r⟩
 ·refine(I.aZ b u e).fP (fun c v hc q=>k c v ?_ q) (fun _ q=>q) fun _ _ q=>q
  rcases hc with z|z
  ·rw[z];exact MQ b u e
  ·exact MQ c _ z
theorem Inv.tok (I:Inv X pins σ H s)(t:Nat):Inv X pins σ H { s with toks:=t }:=I.un (h':=s.heap) (t':=t) Un.refl I.aZ
theorem Inv.kept {t':Nat}(I:Inv X pins σ H s)(k:∀b u,s.heap.get? b=some u->h'.get? b=some u):Inv X pins σ H { s with heap:=h',toks:=t' }:=I.un (Un.kept k) (I.aZ.kept k)
theorem Inv.laid {a:Addr}{o:HO}{t':Nat}(I:Inv X pins σ H s)(k:∀b u,s.heap.get? b=some u->h'.get? b=some u)(hp:s.heap.objs.size<=a)(new:bo X.prog X.w (upd H a o) h' a o):
  Inv X pins σ (upd H a o) { s with heap:=h',toks:=t' }:=I.un (Un.laid k hp (I.aZ.fresh hp)) (I.aZ.laid k hp new)
theorem Inv.write {x e:Addr}{o:HO}{t':Nat}(I:Inv X pins σ H s)(mu:EV (H x))(he:e=x∨H e=some (.own x))(k:∀b u,b≠e->s.heap.get? b=some u->h'.get? b=some u)(C8:∃u,h'.get? e=some u)
  (new:bo X.prog X.w (upd H x o) h' x o):Inv X pins σ (upd H x o) { s with heap:=h',toks:=t' }:=I.un (Un.write mu he k C8) (I.aZ.write mu he k C8 new)
theorem Inv.weak {σ':List (Option V)}(I:Inv X pins σ H s)(hl: σ'.length = σ.length)(w:∀(i:Nat) v,σ'[i]? = some (some v) -> σ[i]? = some (some v)):Inv X pins σ' H s:=
 ⟨I.ok,I.os,I.bare,I.base,let ⟨m,hn,tZ⟩:=I.loc; ⟨m,hn,fun i x v e1 e2 e3=>tZ i x v e1 (w i v e2) e3⟩,I.cell,I.free,I.freeC,I.pin,I.aZ,hl.trans I.len⟩
theorem Inv.jV {iX:List (Addr×Obj)}(I:Inv X pins σ H s)(h:∀p∈iX,s.heap.get? p.1=some p.2/\H p.1=none/\p.1≠X.env.locals/\p.1∉X.fs/\∀v,p.2.data ≠ .cell v):Inv X iX σ H s:=
 ⟨I.ok,I.os,I.bare,I.base,I.loc,I.cell,I.free,I.freeC,fun p hp=>(Ji.mp hp).elim (fun z=>I.pin p (Ud _ z)) (h p),I.aZ,I.len⟩
theorem qb {N:List Str}(hN:N.Nodup){i j:Nat}{x:Str}(a:N[i]? = some x)(b:N[j]? = some x):i=j:=by
 obtain⟨h1,e1⟩:=Ju.mp a
 obtain⟨h2,e2⟩:=Ju.mp b
 exact(List.getElem_inj hN).mp (e1.trans e2.symm)
theorem jb {M:Model}{A:Around}{E:Value->Shared->Prop}{i:Nat}{x:Str}{v:V}{u:Value}{Q:Unit->Shared->Prop}(I:Inv X pins σ H s)(hN:X.N.Nodup)(hi:X.N[i]? = some x)(hx:Loc X.env.scope x)(r:RelV v u)
  (h:∀s',Inv X pins (σ.set i (some v)) H s'->(∃a,Yr a s.heap s'.heap/\(a=X.env.locals∨X.env.cells.lookup x=some a))->Q () s') (hf:X.fn x=true∨X.env.scope.names.lookup x=some .local:=by first|exact .inl rfl|exact .inr rfl|assumption):wpAny M A (storeName X.env x u) Q E s:=by
 obtain⟨m,hn,hl⟩:=id I.loc
 have IM:(X.env.scope.kind == .class||(X.env.scope.kind == .module&&X.env.locals != X.env.globals))=false:=by rw[I.ok.kind];rfl
 have MZ:i < σ.length:=by rw[I.len];exact(Ju.mp hi).1
 have Bw:=I.Bw
 have tracked:∀{a:Addr} {h':Heap},(∃o,s.heap.get? a=some o/\H a=none)->Yr a s.heap h'->eK X.prog X.w H h':=fun{a h'} ha hs b ob e=>by
  obtain⟨_,_,tI⟩:=ha
  refine(I.aZ b ob e).fP (fun c w' hc q=>(hs.2 c ?_).trans q) (fun _ q=>q) fun _ _ q=>q
  rintro rfl
  rcases hc with rfl|hc
  ·rw[tI] at e;cases e
  ·rw[tI] at hc;cases hc
 rcases hx with hk|hk
 ·refine wpAny_storeName_local hk hn (fun h' hn' hs =>?_) IM
  obtain⟨oL,_,_,hoL,_⟩:=id hn
  refine h _ ⟨I.ok,I.os,I.bare,⟨fun b o e n hb hx =>?_,fun b o e n hb hx =>?_,I.base.free,fun b o e hx =>?_,I.base.fU,I.base.eV,I.base.gF⟩,⟨_,hn',fun j y v' e1 e2 e3 =>?_⟩,fun y c e =>?_,I.free,I.freeC,fun p hp =>?_,tracked ⟨oL,hoL,I.free⟩ hs,by simpa using I.len⟩ ⟨_,hs,.inl rfl⟩
  ·exact(hs.2 b (J8 (J3 (Jo e) I.ok.above))).trans (I.base.keep b o e n hb hx)
  ·obtain⟨sl,e1⟩:=I.base.slot b o e n hb hx
   exact⟨sl,(hs.2 b (J8 (J3 (Jo e) I.ok.above))).trans e1⟩
  ·obtain⟨o',e1⟩:=I.base.there b o e hx
   exact⟨o',(hs.2 b (J8 (J3 (Jo e) I.ok.above))).trans e1⟩
  ·by_cases hj:j=i
   ·subst hj
    rw[hi] at e1;cases e1
    rw[List.getElem?_set_self MZ] at e2
    cases e2
    exact⟨u,r,.inl ⟨hk,by simp⟩⟩
   ·rw[List.getElem?_set_ne (Ne.symm hj)] at e2
    obtain⟨u',r',q⟩:=hl j y v' e1 e2 e3
    refine⟨u',r',?_⟩
    rcases q with ⟨k,e⟩|⟨k,c,e,z⟩
    ·refine .inl ⟨k,?_⟩
     have:y≠x:=fun e=>hj (qb hN e1 (e▸hi))
     simp[this,e]
    ·exact .inr ⟨k,c,e,z.sameBut hs (Bw y c e)⟩
  ·obtain⟨w',z⟩:=I.cell y c e
   exact⟨w',z.sameBut hs (Bw y c e)⟩
  ·obtain⟨e,n,ne,nf,d⟩:=I.pin p hp
   exact⟨(hs.2 p.1 ne).trans e,n,ne,nf,d⟩
 ·have Kr:X.fn x=true:=by
   rcases hf with z|z
   ·exact z
   ·rw[z] at hk;cases hk
  obtain⟨c,hc⟩:=I.ok.has x (.inl hk)
  obtain⟨w',z⟩:=I.cell x c hc
  refine wpAny_storeName_cell I.ok.kind hk hc z (fun h' zH hs =>?_)
  obtain⟨oc,hoc,hocd⟩:=id z
  refine h { s with heap:=h' } ⟨I.ok,I.os,I.bare,⟨fun b o e n hb hx =>?_,fun b o e n hb hx =>?_,I.base.free,fun b o e hx =>?_,I.base.fU,I.base.eV,I.base.gF⟩,⟨m,hn.sameBut hs (Ne.symm (Bw x c hc)),fun j y v' e1 e2 e3 =>?_⟩,fun y c' e =>?_,I.free,I.freeC,fun p hp =>?_,tracked ⟨oc,hoc,I.freeC x c hc⟩ hs,by simpa using I.len⟩ ⟨c,hs,.inr hc⟩
  ·exact(hs.2 b (J8 (J3 (Jo e) (I.ok.cab x c Kr hc)))).trans (I.base.keep b o e n hb hx)
  ·obtain⟨sl,e1⟩:=I.base.slot b o e n hb hx
   exact⟨sl,(hs.2 b (J8 (J3 (Jo e) (I.ok.cab x c Kr hc)))).trans e1⟩
  ·obtain⟨o',e1⟩:=I.base.there b o e hx
   exact⟨o',(hs.2 b (J8 (J3 (Jo e) (I.ok.cab x c Kr hc)))).trans e1⟩
  ·by_cases hj:j=i
   ·subst hj
    rw[hi] at e1;cases e1
    rw[List.getElem?_set_self MZ] at e2
    cases e2
    exact⟨u,r,.inr ⟨.inl hk,c,hc,zH⟩⟩
   ·rw[List.getElem?_set_ne (Ne.symm hj)] at e2
    obtain⟨u',r',q⟩:=hl j y v' e1 e2 e3
    refine⟨u',r',?_⟩
    rcases q with q|⟨k,c',e,z'⟩
    ·exact .inl q
    ·refine .inr ⟨k,c',e,z'.sameBut hs ?_⟩
     rintro rfl
     exact hj (qb hN e1 (I.ok.inj _ _ _ e hc▸hi))
  ·by_cases hcc:c'=c
   ·subst hcc;exact⟨_,zH⟩
   ·obtain⟨w2,z2⟩:=I.cell y c' e
    exact⟨w2,z2.sameBut hs hcc⟩
  ·obtain⟨e,n,ne,nf,d⟩:=I.pin p hp
   refine⟨(hs.2 p.1 ?_).trans e,n,ne,nf,d⟩
   intro q
   rw[q,hoc] at e
   have q':oc=p.2:=Option.some.inj e
   exact d w' (by rw[<-q'];exact hocd)
theorem gD {M:Model}{A:Around}{E:Value->Shared->Prop}{i:Nat}{x:Str}{v:V}{u:Value}{Q:Unit->Shared->Prop}(I:Inv X pins σ H s)(hN:X.N.Nodup)(hi:X.N[i]? = some x)(hx:Loc X.env.scope x)(r:RelV v u)
  (h:∀s',Inv X pins (σ.set i (some v)) H s'->Q () s') (hf:X.fn x=true∨X.env.scope.names.lookup x=some .local:=by first|exact .inl rfl|exact .inr rfl|assumption):wpAny M A (storeName X.env x u) Q E s:=
 jb I hN hi hx r (fun s' I' _=>h s' I') hf
theorem Inv.pF {s':Shared}{ch:List Addr}(I:Inv X pins σ H s)(ho:s'.os=s.os)(u:Un (i8 X.stack) ch H H' s.heap s'.heap)(aZ:eK X.prog X.w H' s'.heap)(hg:AllBare s'.gens)
  (qo:∀b∈ch,(b∈X.ex∨X.s₀.heap.objs.size<=b)/\b≠X.env.locals/\(∀x c,X.env.cells.lookup x=some c->c≠b)/\∀p∈X.pn++pins,p.1≠b):Inv X pins σ H' s':=by
 obtain⟨h',g',d',t',o'⟩:=s'
 have e:o'=s.os:=ho
 subst e
 exact I.call (g':=g') (t':=t') (d':=d') u aZ hg qo
end
abbrev XK:=Value->Option Addr->Hp->Prop
noncomputable abbrev St:=List (Option V)
abbrev VK:=V->Hp->Prop
abbrev TE:=St->Hp->VK->Prop
abbrev TT:=St->Hp->(Bool->Hp->Prop)->Prop
abbrev TA:=St->Hp->(List V->Hp->Prop)->Prop
structure Ends where
 nx:St->Hp->Prop
 rt:VK
 bk:St->Hp->Prop:=fun _ _=>False
 ct:St->Hp->Prop:=fun _ _=>False
abbrev TS:=Ends->St->Hp->Prop
def EP (X:Cx)(pins:List (Addr×Obj))(σ:St)(Q:VK)(u:Value)(s':Shared):Prop:=ck fun v H'=>Inv X pins σ H' s'/\RelV v u/\Q v H'
def TP (X:Cx)(pins:List (Addr×Obj))(σ:St)(Q:Bool->Hp->Prop)(b:Bool)(s':Shared):Prop:=∃H',Inv X pins σ H' s'/\Q b H'
def AP (X:Cx)(pins:List (Addr×Obj))(σ:St)(Q:List V->Hp->Prop)(us:List Value)(s':Shared):Prop:=ck fun vs H'=>Inv X pins σ H' s'/\Vals vs us/\Q vs H'
instance Ia {X:Cx} {pins:List (Addr×Obj)} {σ:St} {Q:VK} {u:Value} {s':Shared}:ae (EP X pins σ Q u s') (fun G=>∀v H',Inv X pins σ H' s'->RelV v u->Q v H'->G):=⟨fun⟨v,H',a,b,c⟩ _ k=>k v H' a b c⟩
instance IT {X:Cx} {pins:List (Addr×Obj)} {σ:St} {Q:Bool->Hp->Prop} {b:Bool} {s':Shared}:ae (TP X pins σ Q b s') (fun G=>∀H',Inv X pins σ H' s'->Q b H'->G):=⟨fun⟨H',a,c⟩ _ k=>k H' a c⟩
instance Hw {X:Cx} {pins:List (Addr×Obj)} {σ:St} {Q:List V->Hp->Prop} {us:List Value} {s':Shared}:ae (AP X pins σ Q us s') (fun G=>∀vs H',Inv X pins σ H' s'->Vals vs us->Q vs H'->G):=⟨fun⟨v,H',a,b,c⟩ _ k=>k v H' a b c⟩
def SP (X:Cx)(pins:List (Addr×Obj))(D:Ends)(f:Flow)(s':Shared):Prop:=
 match f with
 | .next=>ck fun σ' H'=>Inv X pins σ' H' s'/\D.nx σ' H'
 | .brk=>ck fun σ' H'=>Inv X pins σ' H' s'/\D.bk σ' H'
 | .cont=>ck fun σ' H'=>Inv X pins σ' H' s'/\D.ct σ' H'
 | .ret u=>fR fun v σ' H'=>Inv X pins σ' H' s'/\RelV v u/\D.rt v H'
def PE (X:Cx)(e:Expr)(t:TE):Prop:=
 ∀ ⦃pins:List (Addr×Obj)⦄ (s:Shared) (σ:St) (H:Hp) (Q:VK),Inv X pins σ H s->t σ H Q->wpAny (model X.prog X.w) X.A (eval e X.env) (EP X pins σ Q) X.xe s
def PT (X:Cx)(e:Expr)(t:TT):Prop:=
 ∀ ⦃pins:List (Addr×Obj)⦄ (s:Shared) (σ:St) (H:Hp) (Q:Bool->Hp->Prop),Inv X pins σ H s->t σ H Q->wpAny (model X.prog X.w) X.A (isTrue e X.env (eval e X.env)) (TP X pins σ Q) X.xe s
def PW (X:Cx)(e:Expr)(t:TT):Prop:=
 ∀ ⦃whole:Sem Value⦄ ⦃pins:List (Addr×Obj)⦄ (s:Shared) (σ:St) (H:Hp) (Q:Bool->Hp->Prop),Inv X pins σ H s->t σ H Q->wpAny (model X.prog X.w) X.A (isTrue e X.env whole) (TP X pins σ Q) X.xe s
theorem PW.pt {X:Cx}{e:Expr}{t:TT}(h:PW X e t):PT X e t:=fun pins s σ H Q I q=>h s σ H Q I q
def PA (X:Cx)(es:List Expr)(t:TA):Prop:=
 ∀ ⦃pos:Pos⦄ ⦃pins:List (Addr×Obj)⦄ (s:Shared) (σ:St) (H:Hp) (Q:List V->Hp->Prop),Inv X pins σ H s->t σ H Q->wpAny (model X.prog X.w) X.A (spliced (backTo pos (starEach es X.env))) (AP X pins σ Q) X.xe s
def PS (X:Cx)(st:Stmt)(t:TS):Prop:=
 ∀ ⦃pins:List (Addr×Obj)⦄ (s:Shared) (σ:St) (H:Hp) (D:Ends),Inv X pins σ H s->t D σ H->wpAny (model X.prog X.w) X.A (exec st X.env) (SP X pins D) X.xe s
def rP (X:Cx)(st:List Stmt)(t:TS):Prop:=
 ∀ ⦃pins:List (Addr×Obj)⦄ (s:Shared) (σ:St) (H:Hp) (D:Ends),Inv X pins σ H s->t D σ H->wpAny (model X.prog X.w) X.A (execs st X.env) (SP X pins D) X.xe s
theorem aR {α:Type}{t:Sem α}{Q Q': α->Shared->Prop}{M:Model}{A:Around}{E:Value->Shared->Prop}{s:Shared}(h:wpAny M A t Q E s)(hQ:∀a s,Q a s->Q' a s):wpAny M A t Q' E s:=wpAny_mono h hQ fun _ _ x=>x
section
variable {X:Cx}
def mY (i:Nat):TE:=fun σ H Q=>∃v,σ[i]? = some (some v)/\Q v H
def tC (v:V):TE:=fun _ H Q=>Q v H
theorem CK {i:Nat}{x:Str}{pos:Pos}(hN:X.N[i]? = some x)(hv:C6 X.env.scope x)(hd:(x==("__debug__" : Str))=false:=by decide)(vB:(x==("__classdict__" : Str))=false:=by decide):PE X (.Name x pos) (mY i):=by
 intro pins s σ H Q I h
 obtain⟨v,e,h⟩:=h
 obtain⟨m,hn,hl⟩:=I.loc
 obtain⟨u,r,l⟩:=hl i x v hN e hv
 have fin:EP X pins σ Q u s:=⟨v,H,I,r,h⟩
 rcases l with ⟨hk,hm⟩|⟨hk,c,hc,hcell⟩
 ·exact wpAny_Name (wpAny_loadName_local I.ok.kind hk hn hm fin) hd
 ·rcases hk with hk|hk
  ·exact wpAny_Name (wpAny_loadName_cell I.ok.kind hk hc hcell fin) hd
  ·exact wpAny_Name (wpAny_loadName_free I.ok.kind hk hc hcell fin vB) hd
theorem ao {i j pos}:PE X (.Constant (.int i) j pos) (tC (.int i)):=fun _ _ _ H _ I h=>wpAny_Constant_int ⟨.int i,H,I.tok _,⟨_,rfl⟩,h⟩
theorem dZ {b j pos}:PE X (.Constant (.bool b) j pos) (tC (.bl b)):=fun _ _ _ H _ I h=>Constant_bool ⟨.bl b,H,I,rfl,h⟩
theorem cV {j pos}:PE X (.Constant .none j pos) (tC .non):=fun _ _ _ H _ I h=>Constant_none ⟨.non,H,I,rfl,h⟩
theorem bb {x j pos}:PE X (.Constant (.str x) j pos) (tC (.str x)):=fun _ _ _ H _ I h=>Calls.Constant_str ⟨.str x,H,I.tok _,⟨_,rfl⟩,h⟩
def Gl (X:Cx)(x:Str):Prop:=X.env.kindOf x=some .globalImplicit
theorem nQ {E:Value->Shared->Prop}{pins:List (Addr×Obj)}{s:Shared}{σ:St}{H:Hp}{x:Str}{u:Value}{pos:Pos}{Q:Value->Shared->Prop}(I:Inv X pins σ H s)(hg:Gl X x)(hm:X.mg x=some u)(h:Q u s)
  (hd:(x==("__debug__" : Str))=false:=by decide):wpAny (model X.prog X.w) X.A (eval (.Name x pos) X.env) Q E s:=
 Calls.Name_function_global I.ok.kind hg (Calls.loadGlobal_global (by rw[I.ok.glob];exact I.mod.glob.keeps I.bk) hm h) hd
theorem gG {E:Value->Shared->Prop}{pins:List (Addr×Obj)}{s:Shared}{σ:St}{H:Hp}{x:Str}{u:Value}{pos:Pos}{Q:Value->Shared->Prop}(I:Inv X pins σ H s)(hg:Gl X x)(hm:X.mg x=none)(hv:bootBuiltins x=some u)(h:Q u s)
  (hn:x ≠ "__name__":=by decide) (hd:(x==("__debug__" : Str))=false:=by decide):wpAny (model X.prog X.w) X.A (eval (.Name x pos) X.env) Q E s:=by
 obtain⟨mb,h1,h2⟩:=I.mod.blt
 exact Calls.Name_function_global I.ok.kind hg (Calls.loadGlobal_builtin (by rw[I.ok.glob];exact I.mod.glob.keeps I.bk) hm (by rw[I.ok.blt];exact h1.keeps I.bk) ((h2 x hn).trans hv) h) hd
theorem zE {x:Str}{v:V}{u:Value}{pos:Pos}(hg:Gl X x)(hm:X.mg x=some u)(r:RelV v u)(hd:(x==("__debug__" : Str))=false:=by decide):PE X (.Name x pos) (tC v):=
 fun _ _ _ H _ I h=>nQ I hg hm ⟨v,H,I,r,h⟩ hd
theorem dr {x:Str}{v:V}{u:Value}{pos:Pos}(hg:Gl X x)(hm:X.mg x=none)(hv:bootBuiltins x=some u)(r:RelV v u)(hn:x ≠ "__name__":=by decide)(hd:(x==("__debug__" : Str))=false:=by decide):PE X (.Name x pos) (tC v):=
 fun _ _ _ H _ I h=>gG I hg hm hv ⟨v,H,I,r,h⟩ hn hd
variable {a b:Expr}{ta tb:TE}{pos:Pos}
def PC (X:Cx)(op:CmpOp)(a b:Expr)(t:TE):Prop:=
 ∀ ⦃pins:List (Addr×Obj)⦄ (s:Shared) (σ:St) (H:Hp) (Q:VK),Inv X pins σ H s->t σ H Q ->
  wpAny (model X.prog X.w) X.A (eval a X.env) (fun v s₁=>wpAny (model X.prog X.w) X.A (eval b X.env) (fun u s₂=>wpAny (model X.prog X.w) X.A (compareOp op v u) (EP X pins σ Q) X.xe s₂) X.xe s₁) X.xe s
def tB (t:TE):TT:=fun σ H Q=>t σ H fun x H1=>∃c,x = .bl c/\Q c H1
theorem rh {op:CmpOp}{t:TE}(h:PC X op a b t)(h1:behindInMarks op b=false:=by first|exact nobehind _ (by decide) (by decide)|rfl):PE X (.Compare a [op] [b] pos) t:=fun pins s σ H Q I hw=>wpAny_Compare1 (h s σ H Q I hw) h1
theorem fX {op:CmpOp}{t:TE}(h:PC X op a b t)(h1:behindInMarks op b=false:=by first|exact nobehind _ (by decide) (by decide)|rfl):PT X (.Compare a [op] [b] pos) (tB t):=by
 intro pins s σ H Q I hw
 refine wpAny_isTrue_Compare1 (aR (h s σ H _ I hw) fun v s1 h1=>aR h1 fun u s2 h2=>aR h2 fun c s3 hz_=>ae.el hz_ _ fun x H1 I1 r1 q1 =>?_) h1
 obtain⟨d,rfl,q⟩:=q1
 cases r1
 exact wpAny_truthy_bool ⟨H1,I1,q⟩
theorem cQ {e:Expr}{t:TE}(h:PE X e t)(he:∀whole,isTrue e X.env whole=(do let v <-whole;standAt e.pos;holding [v] (truthy v)):=by intro _;rfl):PT X e (tB t):=by
 intro pins s σ H Q I hw
 refine isTrue_plain (aR (h s σ H _ I hw) fun v s1 hz_=>ae.el hz_ _ fun x H1 I1 r1 q1 =>?_) (he _)
 obtain⟨d,rfl,q⟩:=q1
 cases r1
 exact wpAny_truthy_bool ⟨H1,I1,q⟩
variable {tA Hs:TT}{rest:List Expr}
def LC (t u:TT):TT:=fun σ H Q=>t σ H fun c H1=>if c=true then u σ H1 Q else Q false H1
def Ou (t u:TT):TT:=fun σ H Q=>t σ H fun c H1=>if c=true then Q true H1 else u σ H1 Q
def IY (t:TT):TT:=fun σ H Q=>t σ H fun c H1=>Q (!c) H1
theorem iI (ha:PT X a tA):PW X (.BoolOp .And [a] pos) tA:=by
 intro wh pins s σ H Q I h
 refine isTrue_and (aR (ha s σ H Q I h) fun c s1 e =>?_)
 cases c with
 | true=>exact isTrue_and_nil e
 | false=>exact e
theorem gc (ha:PT X a tA):PW X (.BoolOp .Or [a] pos) tA:=by
 intro wh pins s σ H Q I h
 refine isTrue_or (aR (ha s σ H Q I h) fun c s1 e =>?_)
 cases c with
 | false=>exact isTrue_or_nil e
 | true=>exact e
theorem lh (ha:PT X a tA)(hb:PW X (.BoolOp .And (b::rest) pos) Hs):PW X (.BoolOp .And (a::b::rest) pos) (LC tA Hs):=by
 intro wh pins s σ H Q I h
 refine isTrue_and (aR (ha s σ H _ I h) fun c s1 hz_ =>?_)
 refine ae.el hz_ _ ?_
 clear hz_
 rintro H1 I1 q1
 cases c with
 | true=>exact hb s1 σ H1 Q I1 q1
 | false=>exact⟨H1,I1,q1⟩
theorem eX (ha:PT X a tA)(hb:PW X (.BoolOp .Or (b::rest) pos) Hs):PW X (.BoolOp .Or (a::b::rest) pos) (Ou tA Hs):=by
 intro wh pins s σ H Q I h
 refine isTrue_or (aR (ha s σ H _ I h) fun c s1 hz_ =>?_)
 refine ae.el hz_ _ ?_
 clear hz_
 rintro H1 I1 q1
 cases c with
 | true=>exact⟨H1,I1,q1⟩
 | false=>exact hb s1 σ H1 Q I1 q1
theorem d6 (ha:PT X a tA):PT X (.UnaryOp .Not a pos) (IY tA):=by
 intro pins s σ H Q I h
 exact isTrue_not (ha s σ H (fun c H1=>Q (!c) H1) I h)
def EU (ta tb:TE):TE:=fun σ H Q=>ta σ H fun x H1=>∃c,x = .bl c/\if c=true then tb σ H1 Q else Q (.bl false) H1
def D7 (ta:TE):TE:=fun σ H Q=>ta σ H fun x H1=>∃c,x = .bl c/\Q (.bl (!c)) H1
theorem Cw {op}{t:TE}(h:PE X a t):PE X (.BoolOp op [a] pos) t:=fun pins s σ H Q I hw=>BoolOp_one (h s σ H Q I hw)
theorem Be (ha:PE X a ta)(hb:PE X (.BoolOp .And (b::rest) pos) tb):PE X (.BoolOp .And (a::b::rest) pos) (EU ta tb):=by
 intro pins s σ H Q I h
 refine BoolOp_and (aR (ha s σ H _ I h) fun v s1 hz_ =>?_)
 refine ae.el hz_ _ ?_
 clear hz_
 rintro x H1 I1 r1 q1
 obtain⟨c,rfl,q1⟩:=q1
 cases r1
 refine wpAny_truthy_bool ?_
 cases c with
 | true=>exact hb s1 σ H1 Q I1 q1
 | false=>exact⟨.bl false,H1,I1,rfl,q1⟩
theorem wk (ha:PE X a ta):PE X (.UnaryOp .Not a pos) (D7 ta):=by
 intro pins s σ H Q I h
 refine UnaryOp_ (aR (ha s σ H _ I h) fun v s1 hz_ =>?_)
 refine ae.el hz_ _ ?_
 clear hz_
 rintro x H1 I1 r1 q1
 obtain⟨c,rfl,q1⟩:=q1
 cases r1
 exact not_of (wpAny_truthy_bool ⟨.bl (!c),H1,I1,rfl,q1⟩)
def LZ (t:TT)(ta tb:TE):TE:=fun σ H Q=>t σ H fun c H1=>if c=true then ta σ H1 Q else tb σ H1 Q
theorem gr {c:Expr}(hc:PT X c tA)(ha:PE X a ta)(hb:PE X b tb):PE X (.IfExp c a b pos) (LZ tA ta tb):=by
 intro pins s σ H Q I h
 refine wpAny_IfExp (aR (hc s σ H _ I h) fun d s1 hz_ =>?_)
 refine ae.el hz_ _ ?_
 clear hz_
 rintro H1 I1 q1
 cases d with
 | true=>exact ha s1 σ H1 Q I1 q1
 | false=>exact hb s1 σ H1 Q I1 q1
end
def aE (K:Jb)(H:Hp)(a:Addr)(xs:List V):Prop:=
 Rd H a (.lst xs) ∨
  fR fun(o:Obj) (av:Array Value) (n:Nat)=>K.lookup a=some o/\o.cls = .type "list" /\ o.dict=none/\o.data = .seq av n/\av.size<=sizeLine/\Vals xs av.toList
def d9 (K:Jb)(H:Hp)(a:Addr)(xs:List V):Prop:=
 Rd H a (.tup xs) ∨
  fR fun(o:Obj) (av:Array Value) (n:Nat)=>K.lookup a=some o/\o.cls = .type "tuple" /\ o.data = .seq av n/\av.size<=sizeLine/\Vals xs av.toList
noncomputable def IZ:Value->Option V
 | .none=>some .non
 | .bool b=>some (.bl b)
 | .int i _=>some (.int i)
 | .str x _=>some (.str x)
 | .bytes b _=>some (.byt b)
 | .float b _=>some (.flt b)
 | .ref a=>some (.ref a)
 | .type n=>some (.ty n)
 | _=>none
theorem RelV.abs {x:V}{u:Value}(r:RelV x u):IZ u=some x:=by
 cases x with
 | non=>cases r;rfl
 | bl _=>cases r;rfl
 | int _=>obtain⟨t,rfl⟩:=r;rfl
 | str _=>obtain⟨t,rfl⟩:=r;rfl
 | byt _=>obtain⟨t,rfl⟩:=r;rfl
 | flt _=>obtain⟨t,rfl⟩:=r;rfl
 | ref _=>cases r;rfl
 | ty _=>cases r;rfl
theorem RelV.inj {x y:V}{u:Value}(r:RelV x u)(q:RelV y u):x=y:=Option.some.inj (r.abs.symm.trans q.abs)
theorem Vals.inj {xs ys:List V}{us:List Value}(h:Vals xs us)(h':Vals ys us):xs=ys:=by
 induction h generalizing ys with
 | nil=>cases h';rfl
 | cons r t ih=>cases h' with|cons r' t'=>rw[RelV.inj r r',ih t']
section
variable {X:Cx}{pins:List (Addr×Obj)}{σ:St}{H:Hp}{s:Shared}{a:Addr}{xs ys:List V}
theorem aE.of {K:Jb}(h:H a=some (.lst xs)):aE K H a xs := .inl (.inl h)
theorem d9.of {K:Jb}(h:H a=some (.tup xs)):d9 K H a xs := .inl (.inl h)
theorem Inv.list (I:Inv X pins σ H s)(h:aE X.K H a xs):∃av:List Value,Vals xs av/\PlainL s.heap a av.toArray/\xs.length<=sizeLine:=by
 rcases h with h|⟨o,av,n,hk,hc,hd,hs,hz,r⟩
 ·obtain⟨z,av,n,r,e⟩:=h.ok I.aZ
  exact⟨av,r,⟨_,n,e,rfl,rfl,rfl⟩,z⟩
 ·refine⟨av.toList,r,⟨o,n,I.lV a o hk,hc,hd,by simpa using hs⟩,?_⟩
  have e:=r.length
  simp only[Jw] at e
  omega
theorem Inv.tuple (I:Inv X pins σ H s)(h:d9 X.K H a xs):∃av:List Value,Vals xs av/\IsTup s.heap a av.toArray/\xs.length<=sizeLine:=by
 rcases h with h|⟨o,av,n,hk,hc,hs,hz,r⟩
 ·obtain⟨z,av,r,p⟩:=h.ok I.aZ
  exact⟨av,r,p,z⟩
 ·refine⟨av.toList,r,⟨o,I.lV a o hk,hc,n,by simpa using hs⟩,?_⟩
  have e:=r.length
  simp only[Jw] at e
  omega
theorem Inv.wX (I:Inv X pins σ H s)(h:aE X.K H a xs)(h':aE X.K H a ys):xs=ys:=by
 obtain⟨av,r,⟨o,n,e,_,_,d⟩,_⟩:=I.list h
 obtain⟨its',r',⟨o',n',e',_,_,d'⟩,_⟩:=I.list h'
 rw[e] at e';cases e'
 rw[d] at d'
 injection d' with d1 _
 have:av=its':=by simpa using congrArg Array.toList d1
 subst this
 exact r.inj r'
end
noncomputable abbrev Cx.lI (X:Cx)(E:Value->Shared->Prop):Cx:={ X with xe:=E }
noncomputable abbrev Cx.GY (X:Cx):Cx:=X.lI fun _ _=>False
theorem Cx.Ok.lI {X:Cx}(ok:X.Ok)(E:Value->Shared->Prop):(X.lI E).Ok:=
 ⟨ok.mod,ok.kind,ok.glob,ok.blt,ok.above,ok.inj,ok.has,ok.cab,ok.hd,ok.frames,ok.stk,ok.exf,ok.bs,ok.bsz,ok.noex,ok.exfs,ok.g5,ok.qP⟩
theorem Cx.Ok.gL {X:Cx}{E:Value->Shared->Prop}(ok:(X.lI E).Ok):X.Ok:=
 ⟨ok.mod,ok.kind,ok.glob,ok.blt,ok.above,ok.inj,ok.has,ok.cab,ok.hd,ok.frames,ok.stk,ok.exf,ok.bs,ok.bsz,ok.noex,ok.exfs,ok.g5,ok.qP⟩
section
variable {X:Cx}{pins:List (Addr×Obj)}{σ:St}{H:Hp}{s:Shared}{E:Value->Shared->Prop}
theorem Inv.lI (I:Inv X pins σ H s)(E:Value->Shared->Prop):Inv (X.lI E) pins σ H s:=⟨I.ok.lI E,I.os,I.bare,I.base,I.loc,I.cell,I.free,I.freeC,I.pin,I.aZ,I.len⟩
theorem Inv.gL (I:Inv (X.lI E) pins σ H s):Inv X pins σ H s:=⟨I.ok.gL,I.os,I.bare,I.base,I.loc,I.cell,I.free,I.freeC,I.pin,I.aZ,I.len⟩
theorem SP.gL {D:Ends}{f:Flow}{s':Shared}(h:SP (X.lI E) pins D f s'):SP X pins D f s':=by
 cases f with
 | next=>obtain⟨σ',H',I,q⟩:=h;exact⟨σ',H',I.gL,q⟩
 | brk=>obtain⟨σ',H',I,q⟩:=h;exact⟨σ',H',I.gL,q⟩
 | cont=>obtain⟨σ',H',I,q⟩:=h;exact⟨σ',H',I.gL,q⟩
 | ret u=>obtain⟨v,σ',H',I,r,q⟩:=h;exact⟨v,σ',H',I.gL,r,q⟩
theorem rP.GY {st:List Stmt}{t:TS}(h:rP X.GY st t):rP X st t:=fun pins s σ H D I hw=>
 wpAny_mono (h s σ H D (I.lI _) hw) (fun _ _ q=>q.gL) fun _ _ z=>False.elim z
end
section
variable {X:Cx}{st:Stmt}{rest:List Stmt}{t u:TS}{e:Expr}{te:TE}{pos:Pos}
def kU:TS:=fun D σ H=>D.nx σ H
def CV (t u:TS):TS:=fun D σ H=>t { D with nx:=u D } σ H
theorem aW:rP X [] kU:=fun _ _ σ H _ I h=>wpAny_execs_nil ⟨σ,H,I,h⟩
theorem ah (h1:PS X st t)(h2:rP X rest u):rP X (st::rest) (CV t u):=by
 intro pins s σ H D I h
 refine wpAny_execs_cons (aR (h1 s σ H { D with nx:=u D } I h) fun f s1 q =>?_)
 cases f with
 | next=>
  obtain⟨σ',H',I',q⟩:=q
  exact h2 s1 σ' H' D I' q
 | ret v=>exact q
 | brk=>exact q
 | cont=>exact q
theorem ak (h1:PS X st t):rP X [st] t:=by
 intro pins s σ H D I h
 refine wpAny_execs_cons (aR (h1 s σ H D I h) fun f s1 q =>?_)
 cases f with
 | next=>exact wpAny_execs_nil q
 | ret v=>exact q
 | brk=>exact q
 | cont=>exact q
theorem Inv.quiet {pins:List (Addr×Obj)}{σ:St}{H:Hp}{s:Shared}(I:Inv X pins σ H s):interactive X.env=false:=by simp[interactive,I.ok.kind]
def DP (te:TE):TS:=fun D σ H=>te σ H fun _ H1=>D.nx σ H1
theorem cH (he:PE X e te)(hs:swapsWith e none pos.line X.env=pure false:=by rfl):PS X (.Expr e pos) (DP te):=by
 intro pins s σ H D I h
 exact wpAny_Expr_any (aR (he s σ H _ I h) fun v s1 hz_=>ae.el hz_ _ fun x H1 I1 r1 q1=>⟨σ,H1,I1,q1⟩) I.quiet hs
def JQ (te:TE):TS:=fun D σ H=>te σ H D.rt
theorem aK (he:PE X e te):PS X (.Return (some e) pos) (JQ te):=by
 intro pins s σ H D I h
 exact wpAny_Return_some (aR (he s σ H _ I h) fun v s1 hz_=>ae.el hz_ _ fun x H1 I1 r1 q1=>⟨x,σ,H1,I1,r1,q1⟩)
def uM (c:TT)(t u:TS):TS:=fun D σ H=>c σ H fun b H1=>if b=true then t D σ H1 else u D σ H1
theorem bV {c:Expr}{a b:List Stmt}{tc:TT}(hc:PT X c tc)(ha:rP X a t)(hb:rP X b u):PS X (.If c a b pos) (uM tc t u):=by
 intro pins s σ H D I h
 refine wpAny_If (aR (hc s σ H _ I h) fun d s1 hz_ =>?_)
 refine ae.el hz_ _ ?_
 clear hz_
 rintro H1 I1 q1
 cases d with
 | true=>exact ha s1 σ H1 D I1 q1
 | false=>exact hb s1 σ H1 D I1 q1
end
abbrev TG:=V->St->Hp->(St->Hp->Prop)->Prop
abbrev sN:=List V->St->Hp->(St->Hp->Prop)->Prop
def PG (X:Cx)(target:Expr)(t:TG):Prop:=
 ∀ ⦃pins:List (Addr×Obj)⦄ (s:Shared) (σ:St) (H:Hp) (v:V) (u:Value) (Q:St->Hp->Prop),Inv X pins σ H s->RelV v u->t v σ H Q ->
  wpAny (model X.prog X.w) X.A (assign target X.env u) (fun _ s'=>ck fun σ' H'=>Inv X pins σ' H' s'/\Q σ' H') X.xe s
def EG (X:Cx)(ts:List Expr)(t:sN):Prop:=
 ∀ ⦃pins:List (Addr×Obj)⦄ (s:Shared) (σ:St) (H:Hp) (vs:List V) (us:List Value) (Q:St->Hp->Prop),Inv X pins σ H s->Vals vs us->t vs σ H Q ->
  wpAny (model X.prog X.w) X.A (assignInOrder ((assignEach ts X.env).map (·.2)) us) (fun _ s'=>ck fun σ' H'=>Inv X pins σ' H' s'/\Q σ' H') X.xe s
abbrev BL:=V->V->V->Hp->(Hp->Prop)->Prop
def Gx (X:Cx)(t:BL):Prop:=
 ∀ ⦃pins:List (Addr×Obj)⦄ (s:Shared) (σ:St) (H:Hp) (o i v:V) (ov iv u:Value) (Q:Hp->Prop),Inv X pins σ H s->RelV o ov->RelV i iv->RelV v u->t o i v H Q ->
  wpAny (model X.prog X.w) X.A (setItem ov iv u) (fun _ s'=>∃H',Inv X pins σ H' s'/\Q H') X.xe s
abbrev Ha:=V->V->Hp->VK->Prop
def MS (X:Cx)(op:Operator)(t:Ha):Prop:=
 ∀ ⦃pins:List (Addr×Obj)⦄ (s:Shared) (σ:St) (H:Hp) (x y:V) (v u:Value) (Q:VK),Inv X pins σ H s->RelV x v->RelV y u->t x y H Q ->
  wpAny (model X.prog X.w) X.A (inplaceOp op v u) (EP X pins σ Q) X.xe s
section
variable {X:Cx}{pos:Pos}
def di (i:Nat):TG:=fun v σ H Q=>Q (σ.set i (some v)) H
theorem ai {i:Nat}{x:Str}(hN:X.N.Nodup)(hi:X.N[i]? = some x)(hx:Loc X.env.scope x)(hf:X.fn x=true∨X.env.scope.names.lookup x=some .local:=by first|exact .inl rfl|exact .inr rfl|assumption):PG X (.Name x pos) (di i):=by
 intro pins s σ H v u Q I r h
 exact wpAny_assign_Name (gD I hN hi hx r (fun s' I'=>⟨_,H,I',h⟩) hf)
noncomputable def qV:sN:=fun vs σ H Q=>vs=[]/\Q σ H
noncomputable def gw (t:TG)(u:sN):sN:=fun vs σ H Q=>ck fun v r=>vs=v::r/\t v σ H fun σ' H'=>u r σ' H' Q
theorem bt:EG X [] qV:=by
 intro pins s σ H vs us Q I r h
 obtain⟨e,h⟩:=h
 subst e
 cases r
 exact assignInOrder_nil ⟨σ,H,I,h⟩
theorem ar {e:Expr}{es:List Expr}{t:TG}{u:sN}(h1:PG X e t)(h2:EG X es u)
  (hs:(assignEach (e::es) X.env).map (·.2)=assign e X.env::(assignEach es X.env).map (·.2):=by rfl):EG X (e::es) (gw t u):=by
 intro pins s σ H vs us Q I r h
 obtain⟨v,vr,e1,h⟩:=h
 subst e1
 cases r with
 | cons r rr=>
  rw[hs]
  refine assignInOrder_cons (aR (h1 s σ H _ _ _ I r h) fun _ s1 hz_ =>?_)
  refine ae.el hz_ _ ?_
  clear hz_
  rintro σ1 H1 I1 q1
  exact h2 s1 σ1 H1 _ _ Q I1 rr q1
def pC (K:Jb)(n:Nat)(t:sN):TG:=fun v σ H Q=>ck fun a xs=>v = .ref a/\d9 K H a xs/\xs.length=n/\t xs σ H Q
theorem BI {es:List Expr}{k:Nat}{t:sN}{n:Nat}(hc:X.calm=true)(h:EG X es t)
  (hn:(assignEach es X.env).length=n:=by rfl) (hR:(assignEach es X.env).findIdx? (·.1)=none:=by rfl):PG X (.Tuple es k pos) (pC X.K n t):=by
 intro pins s σ H v u Q I r hw
 obtain⟨a,xs,e1,hq,hl,hw⟩:=hw
 subst e1
 cases r
 obtain⟨av,rv,ht,hz⟩:=I.tuple hq
 refine assign_Tuple_tuple (I.ok.hd hc) ht (by simp[hn,<-hl,rv.length]) hR fun h' hx =>?_
 have I1:Inv X pins σ H { s with heap:=h' }:=I.kept (t':=s.toks) fun b o e=>hx b o (J8 (Jo e)) e
 exact h _ σ H xs _ Q I1 (by simpa using rv) hw
def JI (to ti:TE)(t:BL):TG:=fun v σ H Q=>to σ H fun o H1=>ti σ H1 fun i H2=>t o i v H2 fun H3=>Q σ H3
theorem BH {o i:Expr}{to ti:TE}{t:BL}(ho:PE X o to)(hi:PE X i ti)(hs:Gx X t)
  (ha:∀v,assign (.Subscript o i pos) X.env v=(do
   let ov <-holding [v] (eval o X.env)
   let iv <-holding [v,ov] (eval i X.env)
   standAt pos
   holding [v,ov,iv] (setItem ov iv v)
   release [v,ov,iv] []):=by intro _;rfl):PG X (.Subscript o i pos) (JI to ti t):=by
 intro pins s σ H v u Q I r h
 rw[ha]
 refine wpAny_bind (wpAny_holding (aR (ho s σ H _ I h) fun ov s1 hz_ =>?_))
 refine ae.el hz_ _ ?_
 clear hz_
 rintro x H1 I1 r1 q1
 refine wpAny_bind (wpAny_holding (aR (hi s1 σ H1 _ I1 q1) fun iv s2 hz_ =>?_))
 refine ae.el hz_ _ ?_
 clear hz_
 rintro y H2 I2 r2 q2
 refine wpAny_bind (wpAny_standAt (wpAny_bind (wpAny_holding (aR (hs s2 σ H2 x y v ov iv u _ I2 r1 r2 r q2) fun _ s3 hz_ =>?_))))
 refine ae.el hz_ _ ?_
 clear hz_
 rintro H3 I3 q3
 exact wpAny_release ⟨σ,H3,I3,q3⟩
def u3 (te:TE)(g:TG):TS:=fun D σ H=>te σ H fun x H1=>g x σ H1 D.nx
theorem fq {tg e:Expr}{te:TE}{g:TG}(he:PE X e te)(hg:PG X tg g)(hs:swapsWithSole [tg] e pos.line X.env=pure false:=by rfl)(hw:swappedStores [tg] e X.env=pure none:=by rfl)
  (h1:(assignEach [tg] X.env).map (·.2)=[assign tg X.env]:=by rfl):PS X (.Assign [tg] e pos) (u3 te g):=by
 intro pins s σ H D I h
 refine wpAny_Assign_stores (aR (he s σ H _ I h) fun v s1 hz_=>ae.el hz_ _ fun x H1 I1 r1 q1 =>?_) hs hw
 rw[h1]
 exact aR (hg s1 σ H1 x v _ I1 r1 q1) fun _ s2 q=>q
theorem aI {i:Nat}{x:Str}{e:Expr}{te:TE}{pos':Pos}(hN:X.N.Nodup)(hi:X.N[i]? = some x)(hx:Loc X.env.scope x)(he:PE X e te)(hs:swapsWith e (some (.Name x pos')) pos.line X.env=pure false:=by rfl)(hf:X.fn x=true∨X.env.scope.names.lookup x=some .local:=by first|exact .inl rfl|exact .inr rfl|assumption):
  PS X (.Assign [.Name x pos'] e pos) (u3 te (di i)):=by
 intro pins s σ H D I h
 refine wpAny_Assign_Name (aR (he s σ H _ I h) fun v s1 hz_=>ae.el hz_ _ fun y H1 I1 r1 q1 =>?_) hs
 exact gD I1 hN hi hx r1 (fun s2 I2=>⟨_,H1,I2,q1⟩) hf
def Lv (i j:Nat)(ta:TA):TS:=fun D σ H=>ta σ H fun vs H1=>ck fun v w=>vs=[v,w]/\D.nx ((σ.set i (some v)).set j (some w)) H1
theorem Bc {i j:Nat}{x y:Str}{a b:Expr}{ta:TA}{px py pt:Pos}{kt k2 pt2}(hc:X.calm=true)(hN:X.N.Nodup)(hi:X.N[i]? = some x)(hj:X.N[j]? = some y)(gX:i≠j)
  (hx:X.env.scope.names.lookup x=some .local) (hy:X.env.scope.names.lookup y=some .local) (ha:PA X [a,b] ta)
  (hw:swappedStores [.Tuple [.Name x px,.Name y py] kt pt] (.Tuple [a,b] k2 pt2) X.env=pure (some [x,y]))
  (hs:swapsWithSole [.Tuple [.Name x px,.Name y py] kt pt] (.Tuple [a,b] k2 pt2) pos.line X.env=pure false:=by rfl) :
  PS X (.Assign [.Tuple [.Name x px,.Name y py] kt pt] (.Tuple [a,b] k2 pt2) pos) (Lv i j ta):=by
 intro pins s σ H D I h
 rw[exec_Assign_arm]
 refine wpAny_bind (wpAny_standAt ?_)
 rw[hs]
 refine wpAny_bind (wpAny_pure ?_)
 rw[if_neg (by decide)]
 refine wpAny_bind (Tuple_ (aR (ha s σ H _ I h) fun us s1 hz_ =>?_))
 refine ae.el hz_ _ ?_
 clear hz_
 rintro vs H1 I1 r1 q1
 obtain⟨v,w,e1,q1⟩:=q1
 subst e1
 obtain⟨u1,u2,rfl,rv,qm⟩:∃u1 u2,us=[u1,u2]/\RelV v u1/\RelV w u2:=by
  cases r1 with
  | cons p q=>
   cases q with
   | cons p' q'=>
    cases q'
    exact⟨_,_,rfl,p,p'⟩
 refine wpAny_newObj_type ?_ (by show 2<=sizeLine;decide)
 have I2:Inv X pins σ H1 { s1 with heap:=s1.heap.push { cls := .type "tuple",data := .seq [u1,u2].toArray } }:=I1.kept (t':=s1.toks) fun b o e=>Je _ e
 rw[hw]
 refine wpAny_bind (wpAny_pure ?_)
 show wpAny (model X.prog X.w) X.A (do rule "assign.swapped-stores";let items <-unpackItems (.ref s1.heap.objs.size) 2 none;assignInOrder [fun v=>bindName X.env y v,fun v=>bindName X.env x v] items.reverse;pure Flow.next) _ _ _
 refine wpAny_bind (wpAny_rule (wpAny_bind (unpackItems_tuple (items := #[u1,u2]) (I.ok.hd hc) (IsTup.new s1.heap _) fun h' Eh =>?_)))
 have I3:=I2.kept (h':=h') (t':=s1.toks) fun b o e=>Eh b o (J8 (Jo e)) e
 show wpAny _ _ (assignInOrder [fun v=>bindName X.env y v,fun v=>bindName X.env x v] [u2,u1] >>= fun _=>pure Flow.next) _ _ _
 refine wpAny_bind (assignInOrder_cons (wpAny_bindName (gD I3 hN hj (.inl hy) qm (fun s2 I4 =>?_) (.inr hy))))
 refine assignInOrder_cons (wpAny_bindName (gD I4 hN hi (.inl hx) rv (fun s3 I5=>assignInOrder_nil (wpAny_pure ?_)) (.inr hx)))
 rw[List.set_comm _ _ (Ne.symm gX)] at I5
 exact⟨_,H1,I5,q1⟩
def JB (i:Nat)(te:TE)(ti:Ha):TS:=fun D σ H=>∃x,σ[i]? = some (some x)/\te σ H fun y H1=>ti x y H1 fun z H2=>D.nx (σ.set i (some z)) H2
theorem Cy {i:Nat}{x:Str}{e:Expr}{te:TE}{op:Operator}{ti:Ha}{pos':Pos}(hN:X.N.Nodup)(hi:X.N[i]? = some x)(hx:Loc X.env.scope x)(he:PE X e te)(ho:MS X op ti)(hf:X.fn x=true∨X.env.scope.names.lookup x=some .local:=by first|exact .inl rfl|exact .inr rfl|assumption):
  PS X (.AugAssign (.Name x pos') op e pos) (JB i te ti):=by
 intro pins s σ H D I h
 obtain⟨v,e1,h⟩:=h
 obtain⟨m,hn,hl⟩:=I.loc
 have Gw:C6 X.env.scope x:=by rcases hx with k|k;exact .inl k;exact .inr (.inl k)
 obtain⟨u,r,l⟩:=hl i x v hi e1 Gw
 refine wpAny_AugAssign_Name ?_
 have go:wpAny (model X.prog X.w) X.A (eval e X.env) (fun w s₂=>wpAny (model X.prog X.w) X.A (inplaceOp op u w) (fun r s₃=>wpAny (model X.prog X.w) X.A (storeName X.env x r) (fun _=>SP X pins D .next) X.xe s₃) X.xe s₂) X.xe s:=by
  refine aR (he s σ H _ I h) fun w s1 hz_ =>?_
  refine ae.el hz_ _ ?_
  clear hz_
  rintro y H1 I1 r1 q1
  refine aR (ho s1 σ H1 v y u w _ I1 r r1 q1) fun z s2 hz_ =>?_
  refine ae.el hz_ _ ?_
  clear hz_
  rintro zv H2 I2 r2 q2
  exact gD I2 hN hi hx r2 (fun s3 I3=>⟨_,H2,I3,q2⟩) hf
 rcases l with ⟨hk,hm⟩|⟨hk,c,hc,hcell⟩
 ·exact wpAny_loadName_local I.ok.kind hk hn hm go
 ·rcases hk with hk|hk
  ·exact wpAny_loadName_cell I.ok.kind hk hc hcell go
  ·rcases hx with k|k
   ·have:X.env.scope.names.lookup x=some .free:=hk
    rw[k] at this;cases this
   ·have:X.env.scope.names.lookup x=some .free:=hk
    rw[k] at this;cases this
noncomputable def N0 (f:Int->Int->Int):Ha:=fun x y H Q=>ck fun i j=>x = .int i/\y = .int j/\Q (.int (f i j)) H
theorem B1:MS X .Add (N0 fun i j=>i+j):=by
 intro pins s σ H x y v u Q I r1 r2 h
 obtain⟨i,j,e1,e2,q⟩:=h
 subst e1;subst e2
 obtain⟨t,rfl⟩:=r1
 obtain⟨t',rfl⟩:=r2
 exact iadd_int ⟨.int _,H,I.tok _,⟨_,rfl⟩,q⟩
end
section
variable {X:Cx}{pos:Pos}
def ig (c:TT)(tb:TS):TS:=fun D σ H=>∃W:Nat->St->Hp->Prop,(∃m,W m σ H)/\∀m σ H,W m σ H ->
 c σ H fun b H1=>if b=true then ∃N:St->Hp->Prop,(∀ σ' H',N σ' H'->∃m',m'<m/\W m' σ' H')/\tb { D with nx:=N,ct:=N,bk:=D.nx } σ H1 else D.nx σ H1
theorem gi {c:Expr}{body:List Stmt}{tc:TT}{tb:TS}(hp:PassesOwn (model X.prog X.w) X.A X.env X.xe)(hc:PT X c tc)(hb:rP X body tb):PS X (.While c body [] pos) (ig tc tb):=by
 intro pins s σ H D I h
 obtain⟨W,⟨m0,w0⟩,turn⟩:=h
 refine wpAny_While (codeAny_whileLoop (fun n s'=>∃ σ' H',Inv X pins σ' H' s'/\W n σ' H') ?_ m0 ⟨σ,H,I,w0⟩)
 rintro n s1 ⟨σ1,H1,I1,w1⟩
 refine wpAny_passesOwn hp (aR (hc s1 σ1 H1 _ I1 (turn n σ1 H1 w1)) fun b s2 hz_ =>?_)
 refine ae.el hz_ _ ?_
 clear hz_
 rintro H2 I2 q2
 cases b with
 | true=>
  obtain⟨N,hN,q2⟩:=q2
  rw[if_pos rfl]
  refine wpAny_passesOwn hp (aR (hb s2 σ1 H2 _ I2 q2) fun f s3 q3 =>?_)
  cases f with
  | next=>
   obtain⟨σ3,H3,I3,n3⟩:=q3
   obtain⟨m',hm,w3⟩:=hN σ3 H3 n3
   exact⟨m',hm,σ3,H3,I3,w3⟩
  | cont=>
   obtain⟨σ3,H3,I3,n3⟩:=q3
   obtain⟨m',hm,w3⟩:=hN σ3 H3 n3
   exact⟨m',hm,σ3,H3,I3,w3⟩
  | brk=>exact q3
  | ret v=>exact q3
 | false=>
  rw[if_neg Jm]
  exact wpAny_execs_nil ⟨σ1,H2,I2,q2⟩
end
structure It where
 go:Nat->Hp->Prop
 yld:Nat->Hp->V->Hp->Prop
 stop:Nat->Hp->Prop
def eg (X:Cx)(pins:List (Addr×Obj))(H:Hp)(b:Addr):Prop:=
 H b=none/\b≠X.env.locals/\b∉X.fs/\(b∈X.ex∨X.s₀.heap.objs.size<=b)/\(∀x c,X.env.cells.lookup x=some c->c≠b)/\∀p∈X.pn++pins,p.1≠b
theorem Inv.kj {X:Cx}{pins:List (Addr×Obj)}{σ:St}{H H':Hp}{s:Shared}{b:Addr}(I:Inv X pins σ H s)(hb:s.heap.objs.size<=b)(hn:H' b=none):eg X pins H' b:=by
 refine⟨hn,Yw (J3 I.lt hb),I.Eg hb,.inr (Js I.sz hb),fun x c e z =>?_,fun p hp z =>?_⟩
 ·obtain⟨v,q⟩:=I.cell x c e
  exact absurd (J3 q.lt (by rw[z];exact hb)) (Yg _)
 ·exact absurd (J3 (Jo (I.pin p hp).1) (by rw[z];exact hb)) (Yg _)
structure Turn (P:Program)(w:World)(K:Jb)(tg:Expr)(J:It)(fp:List Addr)(it:Addr)(tn:Nat->Heap->Prop):Prop where
 mem:it∈fp
 obj:∀i h,tn i h->∀b∈fp,∃o,h.get? b=some o/\∀v,o.data ≠ .cell v
 keep:∀i h h',tn i h->(∀b∈fp,∀o,h.get? b=some o->h'.get? b=some o)->tn i h'
 item:∀(X:Cx),X.prog=P->X.w=w->X.K=K->X.calm=true->∀(i:Nat) (pins:List (Addr×Obj)) (s:Shared) (σ:St) (H:Hp) (E:Value->Shared->Prop),Inv X pins σ H s->(∀b∈fp,eg X pins H b)->tn i s.heap->J.go i H ->
  wpAny (model P w) X.A (pyNext (.ref it)) (fun r s1=>∃u,r=some u /\
   wpAny (model P w) X.A (letOwnedTupleGo tg (.ref it) u) (fun _ s2=>∃x H',Inv X pins σ H' s2/\RelV x u/\J.yld i H x H'/\tn (i+1) s2.heap/\∀b∈fp,H' b=none) E s1) E s
 done:∀(X:Cx),X.prog=P->X.w=w->X.K=K->X.calm=true->∀(i:Nat) (pins:List (Addr×Obj)) (s:Shared) (σ:St) (H:Hp) (E:Value->Shared->Prop),Inv X pins σ H s->(∀b∈fp,eg X pins H b)->tn i s.heap->J.stop i H ->
  wpAny (model P w) X.A (pyNext (.ref it)) (fun r s1=>r=none/\Inv X pins σ H s1) E s
 self:∀(A:Around) (i:Nat) (s:Shared) (Q:Value->Shared->Prop) (E:Value->Shared->Prop),tn i s.heap->Q (.ref it) s->wpAny (model P w) A (pyIter (.ref it)) Q E s
abbrev TI:=St->Hp->(It->Hp->Prop)->Prop
def Mu (X:Cx)(pins:List (Addr×Obj))(σ:St)(tg:Expr)(R:It->Hp->Prop)(Dk:Value)(s2:Shared):Prop:=
 AB fun(it:Addr) (fp:List Addr) (tn:Nat->Heap->Prop) (J:It) (H':Hp)=>Dk = .ref it/\Inv X pins σ H' s2/\Turn X.prog X.w X.K tg J fp it tn/\tn 0 s2.heap/\(∀b∈fp,eg X pins H' b)/\R J H'
def PI (X:Cx)(tg iter:Expr)(wi:TI):Prop:=
 ∀ ⦃pins:List (Addr×Obj)⦄ (s:Shared) (σ:St) (H:Hp) (R:It->Hp->Prop),Inv X pins σ H s->wi σ H R ->
  wpAny (model X.prog X.w) X.A (eval iter X.env) (fun v s1=>wpAny (model X.prog X.w) X.A (pyIter v) (Mu X pins σ tg R) X.xe s1) X.xe s
theorem w5 {M:Model}{A:Around}{E:Value->Shared->Prop}{s:Shared}{tg:Expr}{it:Addr}{u:Value}{o:Obj}{n:String}{vs:Array Value}{Q:Unit->Shared->Prop}(ho:s.heap.get? it=some o)(hc:o.cls = .type n)(hd:o.data = .fields vs)
  (hn:["enumerate", "zip", "dict_itemiterator", "dict_reverseitemiterator", "odict_iterator", "itertools.zip_longest", "itertools.pairwise"].contains n=false) (hQ:Q () s):wpAny M A (letOwnedTupleGo tg (.ref it) u) Q E s:=by
 unfold letOwnedTupleGo
 cases tg<;>first
  | exact wpAny_pure hQ
  | (cases u<;>first
    | exact wpAny_pure hQ
    | (refine wpAny_bind (wpAny_load ho ?_)
       rw[hc,hd]
       show wpAny M A (if (["enumerate", "zip", "dict_itemiterator", "dict_reverseitemiterator", "odict_iterator", "itertools.zip_longest", "itertools.pairwise"].contains n&&vs[0]? == some (rawInt _))=true then _ else _) Q E s
       rw[if_neg (by intro h;rw[hn,Bool.false_and] at h;cases h)]
       exact wpAny_pure hQ))
noncomputable def Hh (K:Jb)(a:Addr):It:=
 ⟨fun i H=>ck fun xs x=>aE K H a xs/\xs[i]? = some x,fun i H x H'=>H'=H/\∀xs,aE K H a xs->xs[i]? = some x,fun i H=>∃xs,aE K H a xs/\xs.length<=i⟩
noncomputable def Cm (lo:Int)(n:Nat):It:=⟨fun i _=>i<n,fun i H x H'=>H'=H/\x = .int (lo+i),fun i _=>n<=i⟩
theorem u5 {P:Program}{w:World}{K:Jb}{tg:Expr}(a it:Addr):Turn P w K tg (Hh K a) [it] it (fun i h=>h.IsListIter it a i) where
 mem:=by simp
 obj:=fun i h st b hb=>by
  have e:b=it:=by simpa using hb
  subst e
  obtain⟨o,e,c,d⟩:=st
  exact⟨o,e,fun v z=>by rw[d] at z;cases z⟩
 keep:=fun i h h' st k=>st.at fun o e=>k it (by simp) o e
 item:=by
  intro X hP hw hK hc i pins s σ H E I hf st hg
  subst hP hw hK
  obtain⟨xs,x,hq,hx⟩:=hg
  obtain⟨av,rv,p,hz⟩:=I.list hq
  obtain⟨u,hu,ru⟩:=rv.get hx
  obtain⟨f0,f1,f2,f3,f4,f5⟩:=hf it (by simp)
  refine wpAny_pyNext_list_item st p.isList (x:=u) (by simpa using hu) fun h' aD sb =>?_
  have I1:Inv X pins σ H { s with heap:=h' }:=I.turned (t':=s.toks) (fun b o hb e=>(sb.2 b hb).trans e) f0 f1 f3 f4 f5
  obtain⟨o,e,c,d⟩:=id aD
  exact⟨u,rfl,w5 (s:={ s with heap:=h' }) e c d (by decide) ⟨x,H,I1,ru,⟨rfl,fun ys hy=>by rw[I.wX hy hq];exact hx⟩,aD,fun b hb=>(hf b hb).1⟩⟩
 done:=by
  intro X hP hw hK hc i pins s σ H E I hf st hg
  subst hP hw hK
  obtain⟨xs,hq,hx⟩:=hg
  obtain⟨av,rv,p,hz⟩:=I.list hq
  obtain⟨f0,f1,f2,f3,f4,f5⟩:=hf it (by simp)
  have hl:=rv.length
  exact wpAny_pyNext_list_end (I.ok.hd hc) st p.isList (by simp;omega) fun h' eb=>⟨rfl,I.turned (t':=s.toks) (fun b o hb e=>eb b o hb e) f0 f1 f3 f4 f5⟩
 self:=fun _ _ _ _ _ st h=>wpAny_pyIter_listiter st h
theorem qU {P:Program}{w:World}{K:Jb}{tg:Expr}(it:Addr)(lo:Int)(n:Nat):Turn P w K tg (Cm lo n) [it] it (fun i h=>IsRangeIter h it (lo+(i:Nat)*1) ((n:Int)-(i:Nat)) 1) where
 mem:=by simp
 obj:=fun i h st b hb=>by
  have e:b=it:=by simpa using hb
  subst e
  exact⟨_,st,fun v z=>by
   have z':Data.fields _=Data.cell v:=z
   cases z'⟩
 keep:=fun i h h' st k=>k it (by simp) _ st
 item:=by
  intro X hP hw hK hc i pins s σ H E I hf st hg
  subst hP hw hK
  obtain⟨f0,f1,f2,f3,f4,f5⟩:=hf it (by simp)
  have W:=Walks.range (prog:=X.prog) (w:=X.w) (I.ok.hd hc) it lo 1 n
  refine W.item i s _ _ hg st fun v h' tk hv aD kk =>?_
  obtain⟨t,rfl⟩:=hv
  have I1:Inv X pins σ H { s with heap:=h',toks:=tk }:=I.turned (fun b o hb e=>kk b o (by simpa using hb) e) f0 f1 f3 f4 f5
  refine⟨_,rfl,w5 (s:={ s with heap:=h',toks:=tk }) (n := "range_iterator") aD rfl rfl (by decide) ⟨.int (lo+i),H,I1,⟨t,?_⟩,⟨rfl,rfl⟩,aD,fun b hb=>(hf b hb).1⟩⟩
  rw[Int.mul_one]
 done:=by
  intro X hP hw hK hc i pins s σ H E I hf st hg
  subst hP hw hK
  obtain⟨f0,f1,f2,f3,f4,f5⟩:=hf it (by simp)
  exact wpAny_pyNext_range_end (I.ok.hd hc) st (by have:n<=i:=hg;omega) fun h' eb=>⟨rfl,I.turned (t':=s.toks) (fun b o hb e=>eb b o hb e) f0 f1 f3 f4 f5⟩
 self:=fun _ _ _ _ _ st h=>wpAny_pyIter_rangeiter st h
section
variable {X:Cx}{tg:Expr}
def wB (K:Jb)(tl:TE):TI:=fun σ H R=>tl σ H fun x H1=>∃a,x = .ref a/\(∃xs,aE K H1 a xs)/\R (Hh K a) H1
theorem zf {l:Expr}{tl:TE}(hl:PE X l tl):PI X tg l (wB X.K tl):=by
 intro pins s σ H R I h
 refine aR (hl s σ H _ I h) fun v s1 hz_ =>?_
 refine ae.el hz_ _ ?_
 clear hz_
 rintro x H1 I1 r1 q1
 obtain⟨a,e,⟨xs,hq⟩,q⟩:=q1
 subst e
 cases r1
 obtain⟨av,rv,p,hz⟩:=I1.list hq
 refine wpAny_pyIter_list p.isList ?_
 refine⟨s1.heap.objs.size,[s1.heap.objs.size],_,_,H1,rfl,I1.kept (t':=s1.toks) fun b o e=>Je _ e,u5 a _,⟨_,Jv _ rfl,rfl,rfl⟩,fun b hb =>?_,q⟩
 have e:b=s1.heap.objs.size:=by simpa using hb
 subst e
 exact I1.kj (Jd _) (I1.aZ.fresh (Jd _))
theorem ou {pins:List (Addr×Obj)}{σ:St}{H:Hp}{s:Shared}{R:It->Hp->Prop}{E:Value->Shared->Prop}{lo hi:Int}{t u v:Tok}{tk:Nat}(I:Inv X pins σ H s)(h1: -(2^62)<=lo)(h2:lo<2^62)(h3: -(2^62)<=hi)(h4:hi<2^62)
  (q:R (Cm lo (hi-lo).toNat) H):wpAny (model X.prog X.w) X.A (pyIter (.ref s.heap.objs.size)) (Mu X pins σ tg R) E { s with heap:=s.heap.push { cls := .type "range",data := .fields #[.int lo t,.int hi u,.int 1 v] },toks:=tk }:=by
 refine wpAny_pyIter_range (IsRange.new ..) (small_one h1 h2 h3 h4) ?_
 have I1:Inv X pins σ H { s with heap:=s.heap.push { cls := .type "range",data := .fields #[.int lo t,.int hi u,.int 1 v] },toks:=tk }:=I.kept fun b o e=>Je _ e
 refine⟨(s.heap.push { cls := .type "range",data := .fields #[.int lo t,.int hi u,.int 1 v] }).objs.size,[(s.heap.push { cls := .type "range",data := .fields #[.int lo t,.int hi u,.int 1 v] }).objs.size],_,_,H,rfl,
  I1.kept (t':=tk) fun b o e=>Je _ e,qU _ lo (hi-lo).toNat,?_,fun b hb =>?_,q⟩
 ·have e1:lo+((0:Nat):Int)*1=lo:=by simp
  have e2:(((hi-lo).toNat:Nat):Int)-((0:Nat):Int)=Builtin.Range.rangeSize lo hi 1:=by rw[rangeSize_one];split<;>omega
  show IsRangeIter _ _ (lo+((0:Nat):Int)*1) ((((hi-lo).toNat:Nat):Int)-((0:Nat):Int)) 1
  rw[e1,e2]
  exact Jv _ rfl
 ·have e:b=(s.heap.push { cls := .type "range",data := .fields #[.int lo t,.int hi u,.int 1 v] }).objs.size:=by simpa using hb
  subst e
  exact I1.kj (Jd _) (I1.aZ.fresh (Jd _))
def FK (ta:TA):TI:=fun σ H R=>ta σ H fun vs H1=>∃j:Int,vs=[.int j] /\ -(2^62)<=j/\j<2^62/\R (Cm 0 j.toNat) H1
def Fp (ta:TA):TI:=fun σ H R=>ta σ H fun vs H1=>∃i j:Int,vs=[.int i,.int j]/\(-(2^62)<=i/\i<2^62 /\ -(2^62)<=j/\j<2^62)/\R (Cm i (j-i).toNat) H1
theorem dj {a:Expr}{ta:TA}{p pos:Pos}(hg:Gl X "range")(hm:X.mg "range" = none)(ha:PA X [a] ta)(hs:starEach [a] X.env=[(false,eval a X.env)]:=by rfl):PI X tg (.Call (.Name "range" p) [a] [] pos) (FK ta):=by
 intro pins s σ H R I h
 refine Call_ (gG I hg hm boot_range (PyProof.Rows.callWith_type1 (aR (ha s σ H _ I h) fun us s1 hz_=>ae.el hz_ _ fun vs H1 I1 r1 q1 =>?_) hs rfl))
 obtain⟨j,e,q1,q2,q⟩:=q1
 subst e
 cases r1 with
 | cons r rr=>
  cases rr
  obtain⟨t,rfl⟩:=r
  exact call_range_1 (ou I1 (by omega) (by omega) q1 q2 (by simpa using q))
theorem mD {a b:Expr}{ta:TA}{p pos:Pos}(hg:Gl X "range")(hm:X.mg "range" = none)(ha:PA X [a,b] ta)(hs:starEach [a,b] X.env=[(false,eval a X.env),(false,eval b X.env)]:=by rfl)(zI:starEach [b] X.env=[(false,eval b X.env)]:=by rfl):
  PI X tg (.Call (.Name "range" p) [a,b] [] pos) (Fp ta):=by
 intro pins s σ H R I h
 refine Call_ (gG I hg hm boot_range (PyProof.Rows.callWith_type1 (aR (ha s σ H _ I h) fun us s1 hz_=>ae.el hz_ _ fun vs H1 I1 r1 q1 =>?_) (by rw[hs,zI]) (by rw[zI];rfl)))
 obtain⟨i,j,e,⟨q1,q2,q3,q4⟩,q⟩:=q1
 subst e
 cases r1 with
 | cons r rr=>
  cases rr with
  | cons r' rr=>
   cases rr
   obtain⟨t,rfl⟩:=r
   obtain⟨t',rfl⟩:=r'
   exact call_range_2 (ou I1 q1 q2 q3 q4 q)
def lB (wi:TI)(g:TG)(tb:TS):TS:=fun D σ H=>wi σ H fun J H1=>∃W:Nat->Nat->St->Hp->Prop,(∃m,W 0 m σ H1)/\∀i m σ H,W i m σ H ->
 (J.stop i H/\D.nx σ H)∨(J.go i H/\∃N:St->Hp->Prop,(∀ σ' H',N σ' H'->∃m',m'<m/\W (i+1) m' σ' H')/\∀x H',J.yld i H x H'->g x σ H' fun σ2 H2=>tb { D with nx:=N,ct:=N,bk:=D.nx } σ2 H2)
noncomputable def dS (fp:List Addr)(h:Heap):List (Addr×Obj):=fp.filterMap fun b=>(h.get? b).map fun o=>(b,o)
theorem bJ {fp:List Addr}{h:Heap}{b:Addr}{o:Obj}(hb:b∈fp)(e:h.get? b=some o):(b,o)∈dS fp h:=List.mem_filterMap.mpr ⟨b,hb,by rw[e];rfl⟩
theorem mi {fp:List Addr}{h:Heap}{p:Addr×Obj}(hp:p∈dS fp h):p.1∈fp/\h.get? p.1=some p.2:=by
 obtain⟨b,hb,e⟩:=List.mem_filterMap.mp hp
 cases q:h.get? b with
 | none=>rw[q] at e;cases e
 | some o=>
  rw[q] at e
  have e':(b,o)=p:=Option.some.inj e
  subst e'
  exact⟨hb,q⟩
theorem Inv.pinned {pins:List (Addr×Obj)}{σ:St}{H:Hp}{s:Shared}{fp:List Addr}(I:Inv X pins σ H s)(hf:∀b∈fp,eg X pins H b)(ho:∀b∈fp,∃o,s.heap.get? b=some o/\∀v,o.data ≠ .cell v):Inv X (pins++dS fp s.heap) σ H s:=
 I.jV fun p hp=>(Ji.mp hp).elim (fun z=>I.pin p (Jk _ z)) fun z=>by
  obtain⟨hb,e⟩:=mi z
  obtain⟨f0,f1,f2,_⟩:=hf p.1 hb
  obtain⟨o,e',d⟩:=ho p.1 hb
  rw[e] at e';cases e'
  exact⟨e,f0,f1,f2,d⟩
theorem Inv.cW {pins pl:List (Addr×Obj)}{σ:St}{H:Hp}{s:Shared}(I:Inv X (pins++pl) σ H s):Inv X pins σ H s:=I.jV fun p hp=>I.pin p (Jk _ (Ud _ hp))
theorem dF {iter:Expr}{body:List Stmt}{wi:TI}{g:TG}{tb:TS}{pos:Pos}(hp:PassesOwn (model X.prog X.w) X.A X.env X.xe)(hc:X.calm=true)(hi:PI X tg iter wi)(hg:PG X tg g)(hb:rP X body tb)
  (hs:∀x,foldedSetIterable iter X.env x=pure x:=by intro _;rfl):PS X (.For tg iter body [] pos) (lB wi g tb):=by
 intro pins s σ H D I h
 refine wpAny_For (aR (hi s σ H _ I h) fun v s1 h1=>aR h1 fun Dk s2 h2 =>?_) hs
 obtain⟨it,fp,tn,J,H2,e,I2,T,bG,f2,W,⟨m0,w0⟩,turn⟩:=h2
 subst e
 have fI:∀{H':Hp},(∀b∈fp,H' b=none)->∀b∈fp,eg X pins H' b:=fun hn b hb=>⟨hn b hb,(f2 b hb).2⟩
 refine codeAny_forLoop_any (fun n s'=>∃i σ' H',Inv X pins σ' H' s'/\tn i s'.heap/\(∀b∈fp,H' b=none)/\W i n σ' H') ?_ m0 ⟨0,σ,H2,I2,bG,fun b hb=>(f2 b hb).1,w0⟩
 rintro n s3 ⟨i,σ3,H3,I3,cR,fr3,w3⟩
 rcases turn i n σ3 H3 w3 with ⟨stop,qn⟩|⟨go,N,hN,step⟩
 ·refine wpAny_passesOwn hp (aR (T.done X rfl rfl rfl hc i pins s3 σ3 H3 X.xe I3 (fI fr3) cR stop) fun r s4 hz_ =>?_)
  refine ae.el hz_ _ ?_
  clear hz_
  rintro hr I4
  subst hr
  exact wpAny_execs_nil ⟨σ3,H3,I4,qn⟩
 ·refine wpAny_passesOwn hp (aR (T.item X rfl rfl rfl hc i pins s3 σ3 H3 X.xe I3 (fI fr3) cR go) fun r s4 hz_ =>?_)
  refine ae.el hz_ _ ?_
  clear hz_
  rintro u hr h4
  subst hr
  refine wpAny_passesOwn hp (aR h4 fun _ s5 hz_=>ae.el hz_ _ fun x H5 I5 r5 y5 df fr5 =>?_)
  have yC:=I5.pinned (fI fr5) (T.obj _ _ df)
  refine wpAny_passesOwn hp (aR (hg s5 σ3 H5 x u _ yC r5 (step x H5 y5)) fun _ s6 hz_ =>?_)
  refine ae.el hz_ _ ?_
  clear hz_
  rintro σ6 H6 I6 q6
  refine wpAny_passesOwn hp (aR (hb s6 σ6 H6 _ I6 q6) fun f s7 q7 =>?_)
  have again:∀{σ7:St} {H7:Hp},Inv X (pins++dS fp s5.heap) σ7 H7 s7->N σ7 H7->∃m,m<n/\∃i σ' H',Inv X pins σ' H' s7/\tn i s7.heap/\(∀b∈fp,H' b=none)/\W i m σ' H':=fun{σ7 H7} I7 n7=>by
   obtain⟨m',hm,w7⟩:=hN σ7 H7 n7
   refine⟨m',hm,i+1,σ7,H7,I7.cW,T.keep _ _ _ df fun b hb o e=>(I7.pin (b,o) (Jk _ (Jk _ (bJ hb e)))).1,fun b hb =>?_,w7⟩
   obtain⟨o,e,d⟩:=T.obj _ _ df b hb
   exact(I7.pin (b,o) (Jk _ (Jk _ (bJ hb e)))).2.1
  cases f with
  | next=>obtain⟨σ7,H7,I7,n7⟩:=q7;exact again I7 n7
  | cont=>obtain⟨σ7,H7,I7,n7⟩:=q7;exact again I7 n7
  | brk=>obtain⟨σ7,H7,I7,q7⟩:=q7;exact⟨σ7,H7,I7.cW,q7⟩
  | ret v=>obtain⟨x7,σ7,H7,I7,r7,q7⟩:=q7;exact⟨x7,σ7,H7,I7.cW,r7,q7⟩
end
theorem lX {lo:Int}{n:Nat}{g:TG}{tb:TS}{D:Ends}{σ:St}{H:Hp}(Pv:Nat->St->Hp->Prop)(h0:Pv 0 σ H)
  (hs:∀i σ H,i<n->Pv i σ H->g (.int (lo+i)) σ H fun σ2 H2=>tb { D with nx:=Pv (i+1),ct:=Pv (i+1),bk:=D.nx } σ2 H2) (hd:∀ σ H,Pv n σ H->D.nx σ H) :
  ∃W:Nat->Nat->St->Hp->Prop,(∃m,W 0 m σ H)/\∀i m σ H,W i m σ H ->
   ((Cm lo n).stop i H/\D.nx σ H)∨((Cm lo n).go i H/\∃N:St->Hp->Prop,(∀ σ' H',N σ' H'->∃m',m'<m/\W (i+1) m' σ' H')/\∀x H',(Cm lo n).yld i H x H'->g x σ H' fun σ2 H2=>tb { D with nx:=N,ct:=N,bk:=D.nx } σ2 H2):=by
 refine⟨fun i m σ H=>m=n-i/\i<=n/\Pv i σ H,⟨n,by simp,Uq _,h0⟩,?_⟩
 rintro i m σ H ⟨rfl,hi,p⟩
 by_cases cc:i<n
 ·refine .inr ⟨cc,Pv (i+1),fun σ' H' p'=>⟨n-(i+1),by omega,rfl,cc,p'⟩,fun x H' y =>?_⟩
  obtain⟨e,y⟩:=y
  subst e y
  exact hs i σ _ cc p
 ·have e:i=n:=by omega
  subst e
  exact .inl ⟨Jd _,hd σ H p⟩
abbrev R2:=V->V->Hp->VK->Prop
def dB (X:Cx)(f:Value->Value->Sem Value)(r:R2):Prop:=
 ∀ ⦃pins:List (Addr×Obj)⦄ (s:Shared) (σ:St) (H:Hp) (x y:V) (v u:Value) (Q:VK),Inv X pins σ H s->RelV x v->RelV y u->r x y H Q ->
  wpAny (model X.prog X.w) X.A (f v u) (EP X pins σ Q) X.xe s
def cn (X:Cx)(f:Value)(r:List V->Hp->VK->Prop):Prop:=
 ∀ ⦃pins:List (Addr×Obj)⦄ (s:Shared) (σ:St) (H:Hp) (xs:List V) (us:List Value) (Q:VK),Inv X pins σ H s->Vals xs us->r xs H Q ->
  wpAny (model X.prog X.w) X.A (call f us) (EP X pins σ Q) X.xe s
def HI (X:Cx)(r:V->Hp->(Bool->Hp->Prop)->Prop):Prop:=
 ∀ ⦃pins:List (Addr×Obj)⦄ (s:Shared) (σ:St) (H:Hp) (x:V) (v:Value) (Q:Bool->Hp->Prop),Inv X pins σ H s->RelV x v->r x H Q ->
  wpAny (model X.prog X.w) X.A (truthy v) (TP X pins σ Q) X.xe s
def BQ (r:R2)(ta tb:TE):TE:=fun σ H Q=>ta σ H fun x H1=>tb σ H1 fun y H2=>r x y H2 Q
def rI (C:Int->Int->Prop)(g:Int->Int->V):R2:=fun x y H Q=>ck fun i j=>x = .int i/\y = .int j/\C i j/\Q (g i j) H
def yw (g:Int->Int->V):R2:=fun x y H Q=>ck fun i j=>x = .int i/\y = .int j/\Q (g i j) H
section
variable {X:Cx}{a b c:Expr}{ta tb tc:TE}{pos:Pos}
theorem BV (ha:PE X a ta)(hb:PE X b tb){pins:List (Addr×Obj)}{s:Shared}{σ:St}{H:Hp}{R:V->V->Hp->Prop}(I:Inv X pins σ H s)
  (h:ta σ H fun x H1=>tb σ H1 fun y H2=>R x y H2) {Q:Value->Shared->Prop} {f:Value->Value->Sem Value}
  (hf:∀v u s2 x y H2,Inv X pins σ H2 s2->RelV x v->RelV y u->R x y H2->wpAny (model X.prog X.w) X.A (f v u) Q X.xe s2) :
  wpAny (model X.prog X.w) X.A (eval a X.env) (fun v s₁=>wpAny (model X.prog X.w) X.A (eval b X.env) (fun u s₂=>wpAny (model X.prog X.w) X.A (f v u) Q X.xe s₂) X.xe s₁) X.xe s:=by
 refine aR (ha s σ H _ I h) fun v s1 hz_ =>?_
 refine ae.el hz_ _ ?_
 clear hz_
 rintro x H1 I1 r1 q1
 refine aR (hb s1 σ H1 _ I1 q1) fun u s2 hz_ =>?_
 refine ae.el hz_ _ ?_
 clear hz_
 rintro y H2 I2 r2 q2
 exact hf v u s2 x y H2 I2 r1 r2 q2
theorem aU {op:Operator}{r:R2}(ho:dB X (binaryOp op) r)(ha:PE X a ta)(hb:PE X b tb):PE X (.BinOp a op b pos) (BQ r ta tb):=by
 intro pins s σ H Q I h
 exact wpAny_BinOp (BV ha hb I h fun v u s2 x y H2 I2 rx ry q=>ho s2 σ H2 x y v u Q I2 rx ry q)
theorem GN {f:Value->Value->Sem Value}{C:Int->Int->Prop}{g:Int->Int->Int}
  (rule:∀(i j:Int) (t u:Tok) (s:Shared) (Q:Value->Shared->Prop) (E:Value->Shared->Prop),C i j->Q (.int (g i j) s.toks) { s with toks:=s.toks+1 } -> wpAny (model X.prog X.w) X.A (f (.int i t) (.int j u)) Q E s) :
  dB X f (rI C fun i j =>.int (g i j)):=by
 intro pins s σ H x y v u Q I rx ry h
 obtain⟨i,j,rfl,rfl,hc,q⟩:=h
 obtain⟨t,rfl⟩:=rx
 obtain⟨t',rfl⟩:=ry
 exact rule i j t t' s _ _ hc ⟨.int (g i j),H,I.tok _,⟨_,rfl⟩,q⟩
theorem EO {f:Value->Value->Sem Value}{g:Int->Int->Int}
  (rule:∀(i j:Int) (t u:Tok) (s:Shared) (Q:Value->Shared->Prop) (E:Value->Shared->Prop),Q (.int (g i j) s.toks) { s with toks:=s.toks+1 } -> wpAny (model X.prog X.w) X.A (f (.int i t) (.int j u)) Q E s) :
  dB X f (yw fun i j =>.int (g i j)):=by
 intro pins s σ H x y v u Q I rx ry h
 obtain⟨i,j,rfl,rfl,q⟩:=h
 obtain⟨t,rfl⟩:=rx
 obtain⟨t',rfl⟩:=ry
 exact rule i j t t' s _ _ ⟨.int (g i j),H,I.tok _,⟨_,rfl⟩,q⟩
theorem yP {f:Value->Value->Sem Value}{g:Int->Int->Bool}
  (rule:∀(i j:Int) (t u:Tok) (s:Shared) (Q:Value->Shared->Prop) (E:Value->Shared->Prop),Q (.bool (g i j)) s->wpAny (model X.prog X.w) X.A (f (.int i t) (.int j u)) Q E s) :
  dB X f (yw fun i j =>.bl (g i j)):=by
 intro pins s σ H x y v u Q I rx ry h
 obtain⟨i,j,rfl,rfl,q⟩:=h
 obtain⟨t,rfl⟩:=rx
 obtain⟨t',rfl⟩:=ry
 exact rule i j t t' s _ _ ⟨.bl (g i j),H,I,rfl,q⟩
def CJ (i j:Int):Prop:=0<j/\j<1073741824
def JL (i j:Int):Prop:=0<=j/\j<=1000000/\i.natAbs<2^64
def rO (i j:Int):Prop:=(-(2^64)<i/\i<2^64)∨(-(2^64)<j/\j<2^64)
theorem rO.ok {i j:Int}(h:rO i j):IntMulOk i j:=by
 rcases h with ⟨h1,h2⟩|⟨h1,h2⟩
 ·exact .of_left (intBits_le_64 h1 h2)
 ·exact .of_right (intBits_le_64 h1 h2)
theorem CC:dB X (binaryOp .Add) (yw fun i j =>.int (i+j)):=EO fun _ _ _ _ _ _ _ q=>add_int q
theorem A8:dB X (binaryOp .Sub) (yw fun i j =>.int (i-j)):=EO fun _ _ _ _ _ _ _ q=>sub_int q
theorem Ct:dB X (binaryOp .Mult) (rI rO fun i j =>.int (i*j)):=GN fun _ _ _ _ _ _ _ hc q=>mul_int q hc.ok
theorem zJ:dB X (binaryOp .FloorDiv) (rI CJ fun i j =>.int (i / j)):=GN fun i j _ _ _ _ _ hc q=>by
 have h1:(0:Int)<j:=hc.1
 have h2:j<1073741824:=hc.2
 exact floordiv_int (by omega) (by rw[Int.fdiv_eq_ediv_of_nonneg i (by omega)];exact q) (.inl (PyProof.noPylong_small (by omega)))
theorem fC:dB X (binaryOp .Mod) (rI (fun _ j=>0<j) fun i j =>.int (i%j)):=GN fun i j _ _ _ _ _ hc q=>by
 have h1:(0:Int)<j:=hc
 exact mod_int' (by omega) (by rw[Int.fmod_eq_emod_of_nonneg i (by omega)];exact q)
theorem CG:dB X (binaryOp .Pow) (rI JL fun i j =>.int (i^j.toNat)):=GN fun _ _ _ _ _ _ _ hc q=>pow_int_small hc.1 hc.2.1 hc.2.2 q
end
noncomputable def FA:V->V->Bool
 | .non,.non=>true | .non,.int _=>true | .int _,.non=>true | .non,.bl _=>true | .bl _,.non=>true | .non,.str _=>true | .str _,.non=>true
 | .int _,.int _=>true | .bl _,.bl _=>true | .str _,.str _=>true | .byt _,.byt _=>true
 | .int _,.str _=>true | .str _,.int _=>true | .bl _,.str _=>true | .str _,.bl _=>true
 | _,_=>false
def KI:R2:=fun x y H Q=>FA x y=true/\Q (.bl (decide (x=y))) H
def IK:R2:=fun x y H Q=>FA x y=true/\Q (.bl (!decide (x=y))) H
theorem si {i j:Int}:decide (V.int i=V.int j)=(i==j):=by
 rw[Bool.eq_iff_iff]
 simp
theorem xF {i j:Bool}:decide (V.bl i=V.bl j)=(i==j):=by
 rw[Bool.eq_iff_iff]
 simp
theorem sP {i j:Str}:decide (V.str i=V.str j)=(i==j):=by
 rw[Bool.eq_iff_iff]
 simp
theorem sQ {i j:Array UInt8}:decide (V.byt i=V.byt j)=(i.toList==j.toList):=by
 rw[Bool.eq_iff_iff]
 cases i
 cases j
 simp
section
variable {X:Cx}{a b c:Expr}{ta tb tc:TE}{pos:Pos}
theorem aV {pins:List (Addr×Obj)}{σ:St}{H:Hp}{s:Shared}{Q:VK}{k k':Bool}(I:Inv X pins σ H s)(q:Q (.bl k) H)(e:k=k'):EP X pins σ Q (.bool k') s:=by
 subst e
 exact⟨.bl k,H,I,rfl,q⟩
theorem EM:dB X (compareOp .Eq) KI:=by
 intro pins s σ H x y v u Q I rx ry h
 obtain⟨hs,q⟩:=h
 cases x with
 | non=>
  cases rx
  cases y with
  | non=>cases ry;exact PySem.EqNone.eq_none_none (aV I q (by simp))
  | bl j=>cases ry;exact PySem.EqNone.eq_none_bool (aV I q (by simp))
  | int j=>obtain⟨t',rfl⟩:=ry;exact PySem.EqNone.eq_none_int (aV I q (by simp))
  | str j=>obtain⟨t',rfl⟩:=ry;exact PySem.EqNone.eq_none_str (aV I q (by simp))
  | _=>exact absurd (show false=true from hs) Jm
 | bl i=>
  cases rx
  cases y with
  | non=>cases ry;exact PySem.EqNone.eq_bool_none (aV I q (by simp))
  | bl j=>cases ry;exact eq_bool (aV I q xF)
  | str j=>obtain⟨t',rfl⟩:=ry;exact PySem.EqMixed.eq_bool_str (aV I q (by simp))
  | _=>exact absurd (show false=true from hs) Jm
 | int i=>
  obtain⟨t,rfl⟩:=rx
  cases y with
  | non=>cases ry;exact PySem.EqNone.eq_int_none (aV I q (by simp))
  | int j=>obtain⟨t',rfl⟩:=ry;exact eq_int (aV I q si)
  | str j=>obtain⟨t',rfl⟩:=ry;exact PySem.EqMixed.eq_int_str (aV I q (by simp))
  | _=>exact absurd (show false=true from hs) Jm
 | str i=>
  obtain⟨t,rfl⟩:=rx
  cases y with
  | non=>cases ry;exact PySem.EqNone.eq_str_none (aV I q (by simp))
  | bl j=>cases ry;exact PySem.EqMixed.eq_str_bool (aV I q (by simp))
  | int j=>obtain⟨t',rfl⟩:=ry;exact PySem.EqMixed.eq_str_int (aV I q (by simp))
  | str j=>obtain⟨t',rfl⟩:=ry;exact eq_str (aV I q sP)
  | _=>exact absurd (show false=true from hs) Jm
 | byt i=>
  obtain⟨t,rfl⟩:=rx
  cases y with
  | byt j=>obtain⟨t',rfl⟩:=ry;exact PySem.W.eq_bytes (aV I q sQ)
  | _=>exact absurd (show false=true from hs) Jm
 | _=>cases y<;>exact absurd (show false=true from hs) Jm
theorem Fu:dB X (compareOp .NotEq) IK:=by
 intro pins s σ H x y v u Q I rx ry h
 obtain⟨hs,q⟩:=h
 cases x with
 | non=>
  cases rx
  cases y with
  | non=>cases ry;exact PySem.EqNone.ne_none_none (aV I q (by simp))
  | bl j=>cases ry;exact PySem.EqNone.ne_none_bool (aV I q (by simp))
  | int j=>obtain⟨t',rfl⟩:=ry;exact PySem.EqNone.ne_none_int (aV I q (by simp))
  | str j=>obtain⟨t',rfl⟩:=ry;exact PySem.EqNone.ne_none_str (aV I q (by simp))
  | _=>exact absurd (show false=true from hs) Jm
 | bl i=>
  cases rx
  cases y with
  | non=>cases ry;exact PySem.EqNone.ne_bool_none (aV I q (by simp))
  | bl j=>cases ry;exact ne_bool (aV I q (congrArg not xF))
  | str j=>obtain⟨t',rfl⟩:=ry;exact PySem.EqMixed.ne_bool_str (aV I q (by simp))
  | _=>exact absurd (show false=true from hs) Jm
 | int i=>
  obtain⟨t,rfl⟩:=rx
  cases y with
  | non=>cases ry;exact PySem.EqNone.ne_int_none (aV I q (by simp))
  | int j=>obtain⟨t',rfl⟩:=ry;exact ne_int (aV I q (congrArg not si))
  | str j=>obtain⟨t',rfl⟩:=ry;exact PySem.EqMixed.ne_int_str (aV I q (by simp))
  | _=>exact absurd (show false=true from hs) Jm
 | str i=>
  obtain⟨t,rfl⟩:=rx
  cases y with
  | non=>cases ry;exact PySem.EqNone.ne_str_none (aV I q (by simp))
  | bl j=>cases ry;exact PySem.EqMixed.ne_str_bool (aV I q (by simp))
  | int j=>obtain⟨t',rfl⟩:=ry;exact PySem.EqMixed.ne_str_int (aV I q (by simp))
  | str j=>obtain⟨t',rfl⟩:=ry;exact ne_str (aV I q (congrArg not sP))
  | _=>exact absurd (show false=true from hs) Jm
 | byt i=>
  obtain⟨t,rfl⟩:=rx
  cases y with
  | byt j=>obtain⟨t',rfl⟩:=ry;exact PySem.W.ne_bytes (aV I q (congrArg not sQ))
  | _=>exact absurd (show false=true from hs) Jm
 | _=>cases y<;>exact absurd (show false=true from hs) Jm
theorem jE:dB X (compareOp .Lt) (yw fun i j =>.bl (decide (i<j))):=yP fun _ _ _ _ _ _ _ q=>lt_int q
theorem DX:dB X (compareOp .LtE) (yw fun i j =>.bl (decide (i<=j))):=yP fun _ _ _ _ _ _ _ q=>le_int q
theorem AR:dB X (compareOp .Gt) (yw fun i j =>.bl (decide (j<i))):=yP fun _ _ _ _ _ _ _ q=>gt_int q
theorem E7:dB X (compareOp .GtE) (yw fun i j =>.bl (decide (j<=i))):=yP fun _ _ _ _ _ _ _ q=>ge_int q
theorem Ci:dB X (compareOp .Is) (fun x y H Q=>y = .non/\Q (.bl (decide (x = .non))) H):=by
 intro pins s σ H x y v u Q I rx ry h
 obtain⟨rfl,q⟩:=h
 cases ry
 refine is_none_gen (aV I q ?_)
 cases x<;>first
  | (cases rx;rfl)
  | (obtain⟨t,rfl⟩:=rx;rfl)
theorem yt:dB X (compareOp .IsNot) (fun x y H Q=>y = .non/\Q (.bl (!decide (x = .non))) H):=by
 intro pins s σ H x y v u Q I rx ry h
 obtain⟨rfl,q⟩:=h
 cases ry
 refine isnot_none_gen (aV I q ?_)
 cases x<;>first
  | (cases rx;rfl)
  | (obtain⟨t,rfl⟩:=rx;rfl)
theorem dB.or {f:Value->Value->Sem Value}{r r':R2}(h:dB X f r)(h':dB X f r'):dB X f (fun x y H Q=>r x y H Q∨r' x y H Q):=by
 intro pins s σ H x y v u Q I rx ry q
 rcases q with q|q
 ·exact h s σ H x y v u Q I rx ry q
 ·exact h' s σ H x y v u Q I rx ry q
theorem aM (b:Expr){op:CmpOp}(h:op ≠ .In:=by decide)(h2:op ≠ .NotIn:=by decide):behindInMarks op b=false:=by
 have e1:(op==CmpOp.In)=false:=by cases op<;>first|rfl|exact absurd rfl h
 have e2:(op==CmpOp.NotIn)=false:=by cases op<;>first|rfl|exact absurd rfl h2
 cases b<;>simp[behindInMarks,e1,e2]
theorem iE {op:CmpOp}{r:R2}(ho:dB X (compareOp op) r)(ha:PE X a ta)(hb:PE X b tb)(hm:behindInMarks op b=false):PE X (.Compare a [op] [b] pos) (BQ r ta tb):=by
 intro pins s σ H Q I h
 exact wpAny_Compare1 (BV ha hb I h fun v u s2 x y H2 I2 rx ry q=>ho s2 σ H2 x y v u Q I2 rx ry q) hm
def sh (t:TE):TT:=fun σ H Q=>t σ H fun x H'=>∃k,x = .bl k/\Q k H'
theorem aG {op:CmpOp}{r:R2}(ho:dB X (compareOp op) r)(ha:PE X a ta)(hb:PE X b tb)(hm:behindInMarks op b=false):PT X (.Compare a [op] [b] pos) (sh (BQ r ta tb)):=by
 intro pins s σ H Q I h
 refine wpAny_isTrue_Compare1 (aR (ha s σ H _ I h) fun v s1 hz_=>ae.el hz_ _ fun x H1 I1 r1 q1=>aR (hb s1 σ H1 _ I1 q1) fun u s2 ⟨y,H2,I2,r2,q2⟩=>
  aR (ho s2 σ H2 x y v u _ I2 r1 r2 q2) fun c s3 ⟨z,H3,I3,r3,k,e,q3⟩=>?_) hm
 subst e
 cases r3
 exact wpAny_truthy_bool ⟨H3,I3,q3⟩
def B6 (r r':R2)(ta tb tc:TE):TE:=fun σ H Q=>ta σ H fun x H1=>tb σ H1 fun y H2=>r x y H2 fun z H3=>∃k,z = .bl k /\
 (if k=true then tc σ H3 fun w' H4=>r' y w' H4 Q else Q (.bl false) H3)
theorem oK {op Lb:CmpOp}{r r':R2}(ho:dB X (compareOp op) r)(rB:dB X (compareOp Lb) r')(ha:PE X a ta)(hb:PE X b tb)(hc:PE X c tc)
  (hm:lastMarks [op,Lb] [b,c]=false:=by with_unfolding_all rfl):PT X (.Compare a [op,Lb] [b,c] pos) (sh (B6 r r' ta tb tc)):=by
 intro pins s σ H Q I h
 refine isTrue_chain (aR (ha s σ H _ I h) fun v s1 hz_=>ae.el hz_ _ fun x H1 I1 r1 q1=>test_link (aR (hb s1 σ H1 _ I1 q1) fun u s2 ⟨y,H2,I2,r2,q2⟩=>
  aR (ho s2 σ H2 x y v u _ I2 r1 r2 q2) fun d s3 ⟨z,H3,I3,r3,k,e,q3⟩=>?_)) hm
 subst e
 cases r3
 refine wpAny_truthy_bool ?_
 cases k with
 | false=>
  obtain⟨k',e',q'⟩:=q3
  cases e'
  exact ite_ff ⟨H3,I3,q'⟩
 | true=>
  refine ite_tt (test_last (aR (hc s3 σ H3 _ I3 q3) fun w' s4 hz_=>ae.el hz_ _ fun z' H4 I4 r4 q4=>aR (rB s4 σ H4 y z' u w' _ I4 r2 r4 q4) fun d' s5 hz_ =>?_))
  refine ae.el hz_ _ ?_
  clear hz_
  rintro z2 H5 I5 r5 ⟨k2,e2,q5⟩
  subst e2
  cases r5
  exact wpAny_truthy_bool ⟨H5,I5,q5⟩
def DF (K:Jb)(x:V)(H:Hp)(k:Bool):Prop:=
 match x with
 | .non=>k=false
 | .bl b=>k=b
 | .int i=>k=(i != 0)
 | .str y=>y.length<=sizeLine/\k=((y.length:Int) != 0)
 | .byt y=>y.size<=sizeLine/\k=((y.size:Int) != 0)
 | .ref p=>(∃xs,aE K H p xs/\k = !xs.isEmpty)∨(∃xs,d9 K H p xs/\k = !xs.isEmpty)∨∃kvs,H p=some (.dK kvs)/\k = !kvs.isEmpty
 | _=>False
theorem qL {κ:Type}{kvs:List (κ×V)}{vs:List (κ×Value)}(r:KV kvs vs):(!vs.isEmpty) = !kvs.isEmpty:=by
 cases r<;>rfl
theorem kI {xs:List V}{av:List Value}(r:Vals xs av):(!av.toArray.isEmpty) = !xs.isEmpty:=by
 cases r<;>simp
theorem iy:(sizeLine:Nat)<2^63:=by rw[sizeLine_eq];decide
theorem CN:HI X (fun x H Q=>∃k,DF X.K x H k/\Q k H):=by
 intro pins s σ H x v Q I rx h
 obtain⟨k,e,q⟩:=h
 have hl:=iy
 have hs:sizeLine=16777216:=sizeLine_eq
 cases x with
 | non=>
  cases rx
  have e':k=false:=e
  subst e'
  exact truthy_none ⟨H,I,q⟩
 | bl b=>
  cases rx
  have e':k=b:=e
  subst e'
  exact wpAny_truthy_bool ⟨H,I,q⟩
 | int i=>
  obtain⟨t,rfl⟩:=rx
  have e':k=(i != 0):=e
  subst e'
  exact PySem.P.truthy_int ⟨H,I,q⟩
 | str y=>
  obtain⟨t,rfl⟩:=rx
  obtain⟨hy,e'⟩:y.length<=sizeLine/\k=((y.length:Int) != 0):=e
  subst e'
  exact PySem.P.truthy_str (by omega) ⟨H,I.tok _,q⟩
 | byt y=>
  obtain⟨t,rfl⟩:=rx
  obtain⟨hy,e'⟩:y.size<=sizeLine/\k=((y.size:Int) != 0):=e
  subst e'
  exact PySem.W.truthy_bytes (by omega) ⟨H,I.tok _,q⟩
 | ref p=>
  cases rx
  have e':(∃xs,aE X.K H p xs/\k = !xs.isEmpty)∨(∃xs,d9 X.K H p xs/\k = !xs.isEmpty)∨∃kvs,H p=some (.dK kvs)/\k = !kvs.isEmpty:=e
  rcases e' with ⟨xs,hx,e'⟩|⟨xs,hx,e'⟩|⟨kvs,hx,e'⟩
  ·subst e'
   obtain⟨av,r,pl,hz⟩:=I.list hx
   have hlen:=r.length
   exact wpAny_truthy_list pl.isList (by simp only[Jl];omega) ⟨H,I.tok _,by rw[kI r];exact q⟩
  ·subst e'
   obtain⟨av,r,pl,hz⟩:=I.tuple hx
   have hlen:=r.length
   exact truthy_tuple pl (by simp only[Jl];omega) ⟨H,I.tok _,by rw[kI r];exact q⟩
  ·subst e'
   obtain⟨hz,hS,vs,r,m⟩:kvs.length<=sizeLine/\(p==sysModules)=false/\∃vs,KV kvs vs/\s.heap.DictOf (bj X.prog X.w) p vs:=I.aZ p _ hx
   have hlen:kvs.length=vs.length:=Paired.length r
   exact wpAny_truthy_dict hS m (by omega) ⟨H,I.tok _,by rw[qL r];exact q⟩
 | _=>exact(show False from e).elim
theorem xb (ha:PE X a ta)(he:∀whole,isTrue a X.env whole=(do let v <-whole;standAt a.pos;holding [v] (truthy v))):
  PT X a (fun σ H Q=>ta σ H fun x H'=>∃k,DF X.K x H' k/\Q k H'):=by
 intro pins s σ H Q I h
 exact isTrue_plain (aR (ha s σ H _ I h) fun v s1 hz_=>ae.el hz_ _ fun x H1 I1 r1 q1=>CN s1 σ H1 x v Q I1 r1 q1) (he _)
theorem qN:dB X (binaryOp .Add) (fun x y H Q=>∃i j,x = .str i/\y = .str j/\i.length+j.length<=sizeLine/\Q (.str (i++j)) H):=by
 intro pins s σ H x y v u Q I rx ry h
 obtain⟨i,j,rfl,rfl,hz,q⟩:=h
 obtain⟨t,rfl⟩:=rx
 obtain⟨t',rfl⟩:=ry
 exact add_str (fun t' tk=>⟨.str (i++j),H,I.tok _,⟨_,rfl⟩,q⟩) hz
theorem vals1 {x:V}{us:List Value}(r:Vals [x] us):∃u,us=[u]/\RelV x u:=by
 cases r with
 | cons r1 r2=>cases r2;exact⟨_,rfl,r1⟩
theorem vals2 {x y:V}{us:List Value}(r:Vals [x,y] us):∃u w',us=[u,w']/\RelV x u/\RelV y w':=by
 cases r with
 | cons r1 r2=>
  cases r2 with
  | cons r3 r4=>cases r4;exact⟨_,_,rfl,r1,r3⟩
theorem ux:cn X (.type "int") (fun xs H Q=>(∃i,xs=[.int i]/\Q (.int i) H)∨∃k,xs=[.bl k]/\Q (.int (if k then 1 else 0)) H):=by
 intro pins s σ H xs us Q I r h
 rcases h with ⟨i,rfl,q⟩|⟨k,rfl,q⟩
 ·obtain⟨u,rfl,t,rfl⟩:=vals1 r
  exact call_int_int ⟨.int i,H,I,⟨_,rfl⟩,q⟩
 ·obtain⟨u,rfl,r1⟩:=vals1 r
  cases r1
  exact call_int_bool ⟨.int (if k then 1 else 0),H,I.tok _,⟨_,rfl⟩,q⟩
def B4 (K:Jb)(x:V)(H:Hp)(n:Nat):Prop:=
 match x with
 | .str y=>y.length<=sizeLine/\n=y.length
 | .byt y=>y.size<=sizeLine/\n=y.size
 | .ref p=>(∃xs,aE K H p xs/\n=xs.length)∨∃xs,d9 K H p xs/\n=xs.length
 | _=>False
theorem ve:cn X (.builtin "len") (fun xs H Q=>∃x n,xs=[x]/\B4 X.K x H n/\Q (.int n) H):=by
 intro pins s σ H xs us Q I r h
 obtain⟨x,n,rfl,e,q⟩:=h
 obtain⟨u,rfl,rx⟩:=vals1 r
 have hl:=iy
 have hs:sizeLine=16777216:=sizeLine_eq
 cases x with
 | str y=>
  obtain⟨t,rfl⟩:=rx
  obtain⟨hy,e'⟩:y.length<=sizeLine/\n=y.length:=e
  subst e'
  exact len_str (by omega) ⟨.int _,H,I.tok _,⟨_,rfl⟩,q⟩
 | byt y=>
  obtain⟨t,rfl⟩:=rx
  obtain⟨hy,e'⟩:y.size<=sizeLine/\n=y.size:=e
  subst e'
  exact PySem.W.len_bytes (by omega) ⟨.int _,H,I.tok _,⟨_,rfl⟩,q⟩
 | ref p=>
  cases rx
  have e':(∃xs,aE X.K H p xs/\n=xs.length)∨∃xs,d9 X.K H p xs/\n=xs.length:=e
  rcases e' with ⟨xs,hx,e'⟩|⟨xs,hx,e'⟩
  ·subst e'
   obtain⟨av,r',pl,hz⟩:=I.list hx
   have hlen:=r'.length
   exact Calls.call_len_list pl.isList (by simp only[Jl];omega) ⟨.int xs.length,H,I.tok _,⟨_,by simp only[Jl];rw[hlen]⟩,q⟩
  ·subst e'
   obtain⟨av,r',pl,hz⟩:=I.tuple hx
   have hlen:=r'.length
   exact len_tuple pl (by simp only[Jl];omega) ⟨.int xs.length,H,I.tok _,⟨_,by simp only[Jl];rw[hlen]⟩,q⟩
 | _=>exact(show False from e).elim
theorem pP:cn X (.builtin "divmod") (fun xs H Q=>∃i j,xs=[.int i,.int j]/\CJ i j/\∀p,H p=none->Q (.ref p) (upd H p (.tup [.int (i / j),.int (i%j)]))):=by
 intro pins s σ H xs us Q I r h
 obtain⟨i,j,rfl,⟨h1,h2⟩,q⟩:=h
 obtain⟨u,w',rfl,⟨t,rfl⟩,⟨t',rfl⟩⟩:=vals2 r
 refine divmod_int (by omega) ?_ (.inl (PyProof.noPylong_small (by omega)))
 rw[Int.fdiv_eq_ediv_of_nonneg i (by omega),Int.fmod_eq_emod_of_nonneg i (by omega)]
 have hn:H s.heap.objs.size=none:=I.aZ.fresh (Jd _)
 refine⟨.ref s.heap.objs.size,_,?_,rfl,q _ hn⟩
 refine I.laid (fun b o e=>Je _ e) (Jd _) ⟨by simp only[Jx,Yx];rw[sizeLine_eq];decide,[.int (i / j) s.toks,.int (i%j) (s.toks+1)],.cons ⟨_,rfl⟩ (.cons ⟨_,rfl⟩ .nil),?_⟩
 exact⟨_,Jv s.heap rfl,rfl,0,rfl⟩
end
structure BB (h:Heap)(x dx C:Addr)(mA:Str->Option Value):Prop where
 obj:h.get? x=some (PySem.W.instObj C dx)
 ns:h.Ns1 dx mA
 ne:dx≠x
theorem uB {h:Heap}{dx:Addr}{mA:Str->Option Value}(n:h.Ns1 dx mA):∃od,h.get? dx=some od/\∀name,PySem.W.lookIn name od=some (mA name):=by
 obtain⟨o,es,ep,ho,hd,hk,_,hm⟩:=n
 refine⟨o,ho,fun name =>?_⟩
 have e:=hm name
 unfold nsFind findBy at e
 rw[<-Array.find?_toList] at e
 unfold PySem.W.lookIn
 rw[hd]
 dsimp only
 split
 ·rename_i y q
  rw[q] at e
  exact congrArg some e
 ·rename_i q
  rw[q] at e
  have a:es.toList.any (·.refKey)=false:=by
   rw[List.any_eq_false]
   intro y hy
   obtain⟨z,t,wj⟩:=hk y (Array.mem_toList_iff.mp hy)
   simp[DictEntry.refKey,wj]
  have a':¬es.toList.any (·.refKey)=true:=by rw[a];exact Jm
  rw[if_neg a']
  exact congrArg some e
theorem BB.look {h:Heap}{x dx C:Addr}{mA:Str->Option Value}(I:BB h x dx C mA):∃od,PySem.W.InstAt h x (PySem.W.instObj C dx) C (some od)/\∀name,PySem.W.lookIn name od=some (mA name):=
 let ⟨od,ho,hl⟩:=uB I.ns
 ⟨od,⟨I.obj,rfl,rfl,ho⟩,hl⟩
theorem kK.some_of {v:V}{o:Option Value}(r:kK (some v) o):∃u,o=some u/\RelV v u:=by
 cases o with
 | none=>exact(show False from r).elim
 | some u=>exact⟨u,rfl,r⟩
section
variable {P:Program}{w:World}{H H':Hp}{h h':Heap}{a C dx:Addr}{fs mP:List (Str×V)}
theorem yN (aZ:eK P w H h)(e:H a=some (.ins C dx fs)):∃mA,BB h a dx C mA/\(∀f,kK (fs.lookup f) (mA f))/\PySem.Within mA (fs.map (·.1))/\fs.length<=1000/\H dx=some (.own a):=by
 obtain⟨d,z,ne,ob,mA,n,r,q⟩:=(show bo P w H h a (.ins C dx fs) from aZ a _ e)
 exact⟨mA,⟨ob,n,ne⟩,r,q,z,d⟩
end
structure IB (K:Jb)(C:Addr):Prop where
 pg:PySem.W.plainGet K C Str.empty=true
 hd:PySem.W.hasDictIn K C=true
 po:PySem.W.plainOver K C=true
 sa:PySem.W.findIn K (.ref C) "__setattr__" = some (some (.builtin "object.__setattr__"))
theorem IB.get {K:Jb}{C:Addr}(c:IB K C)(f:Str):PySem.W.plainGet K C f=true:=c.pg
section
variable {X:Cx}{pins:List (Addr×Obj)}{σ:St}{H:Hp}{s:Shared}{A:Around}{E:Value->Shared->Prop}{Q:Value->Shared->Prop}{c:Value}{b:Bool}
inductive i6 (K:Jb)(H:Hp):V->Value->Prop where
 | non:i6 K H .non (.type "NoneType")
 | bl (x:Bool):i6 K H (.bl x) (.type "bool")
 | int (i:Int):i6 K H (.int i) (.type "int")
 | str (x:Str):i6 K H (.str x) (.type "str")
 | flt (x:UInt64):i6 K H (.flt x) (.type "float")
 | lst {a:Addr} {xs:List V} (e:H a=some (.lst xs)):i6 K H (.ref a) (.type "list")
 | frz {a:Addr} {o:Obj} {xs:List V} (e:H a=some (.frz o (.lst xs))):i6 K H (.ref a) (.type "list")
 | tup {a:Addr} {xs:List V} (e:H a=some (.tup xs)):i6 K H (.ref a) (.type "tuple")
 | dK {a:Addr} {kvs:List (Key×V)} (e:H a=some (.dK kvs)):i6 K H (.ref a) (.type "dict")
 | dT {a:Addr} {kvs:List (List Key×V)} (e:H a=some (.dT kvs)):i6 K H (.ref a) (.type "dict")
 | ins {a C dx:Addr} {fs:List (Str×V)} (e:H a=some (.ins C dx fs)) (cl:IB K C) (ha:PySem.W.findIn K (.ref C) "__class__" = some (some (.builtin "object.__class__")))
   (hn:PySem.W.specialIn K (.builtin "object.__class__") "__get__" = some (some (.builtin "getset_descriptor.__get__"))) (cC:PySem.W.takesIn K (.builtin "object.__class__")=some true)
   (hm:PySem.W.mroIn K C (.type "object")=some true):i6 K H (.ref a) (.ref C)
theorem tM {x:V}{u t:Value}(I:Inv X pins σ H s)(rx:RelV x u)(ty:i6 X.K H x t)(e:Y1 X.K t c=some b)(h:∀tk,Q (.bool b) { s with toks:=tk }):
  wpAny (model X.prog X.w) A (call (.builtin "isinstance") [u,c]) Q E s:=by
 cases ty with
 | non=>cases (show u=Value.none from rx);exact Yi PySem.W.kitx_none I.lV True.intro e (fun z=>nomatch z) h
 | bl y=>cases (show u=Value.bool y from rx);exact Yi PySem.W.kitx_bool I.lV True.intro e (fun z=>nomatch z) h
 | int i=>obtain⟨t,q⟩:=(show ∃t,u=Value.int i t from rx);cases q;exact Yi PySem.W.kitx_int I.lV True.intro e (fun z=>nomatch z) h
 | str y=>obtain⟨t,q⟩:=(show ∃t,u=Value.str y t from rx);cases q;exact Yi PySem.W.kitx_str I.lV True.intro e (fun z=>nomatch z) h
 | flt y=>obtain⟨t,q⟩:=(show ∃t,u=Value.float y t from rx);cases q;exact Yi PySem.W.kitx_float I.lV True.intro e (fun z=>nomatch z) h
 | @lst a xs ea=>
  cases (show u=Value.ref a from rx)
  obtain⟨_,_,n,_,h1⟩:=(show bo X.prog X.w H s.heap a (.lst xs) from I.aZ a _ ea)
  exact Yi PySem.W.kitx_list I.lV ⟨_,h1,rfl⟩ e (fun z=>nomatch z) h
 | @frz a ob xs ea=>
  cases (show u=Value.ref a from rx)
  obtain⟨_,_,_,n,_,h1⟩:=(show bo X.prog X.w H s.heap a (.frz ob (.lst xs)) from I.aZ a _ ea)
  exact Yi PySem.W.kitx_list I.lV ⟨_,h1,rfl⟩ e (fun z=>nomatch z) h
 | @tup a xs ea=>
  cases (show u=Value.ref a from rx)
  obtain⟨_,_,_,p⟩:=(show bo X.prog X.w H s.heap a (.tup xs) from I.aZ a _ ea)
  obtain⟨o,h1,h2,_⟩:=p
  exact Yi PySem.W.kitx_tuple I.lV ⟨o,h1,h2⟩ e (fun z=>nomatch z) h
 | @dK a kvs ea=>
  cases (show u=Value.ref a from rx)
  obtain⟨_,_,vs,_,p⟩:=(show bo X.prog X.w H s.heap a (.dK kvs) from I.aZ a _ ea)
  obtain⟨o,es,ep,h1,h2,_⟩:=p
  exact Yi PySem.W.kitx_dict I.lV ⟨o,h1,h2.1⟩ e (fun z=>nomatch z) h
 | @dT a kvs ea=>
  cases (show u=Value.ref a from rx)
  obtain⟨_,_,xs,_,o,es,ep,h1,h2,_⟩:=(show bo X.prog X.w H s.heap a (.dT kvs) from I.aZ a _ ea)
  exact Yi PySem.W.kitx_dict I.lV ⟨o,h1,h2.1⟩ e (fun z=>nomatch z) h
 | @ins a C dx fs ea cl ha hn cC hm=>
  cases (show u=Value.ref a from rx)
  obtain⟨mA,O,_⟩:=yN I.aZ ea
  obtain⟨od,J,_⟩:=O.look
  exact Yi (PySem.W.kitx_own (cl.get _) cl.hd ha hn cC hm) I.lV J e (fun z=>nomatch z) h
end
structure dH (k:Nat)(A:Around):Prop where
 hd:A.handled=none
 dp:A.depth+3*k+5<recursionLimit
 un:A.units+16*k+200<cLine
 gd:A.guards=some []
theorem dH.mono {j k:Nat}{A:Around}(r:dH k A)(h:j<=k):dH j A:=⟨r.hd,by have:=r.dp;omega,by have:=r.un;omega,r.gd⟩
theorem dH.deeper {k:Nat}{A:Around}(r:dH (k+1) A)(env:Env):dH k (A.deeper env):=
 ⟨r.hd,by have:=r.dp;show A.depth+1+3*k+5<_;omega,by have:=r.un;show A.units+3+16*k+200<_;omega,r.gd⟩
theorem dH.in1 {k:Nat}{A:Around}(r:dH (k+1) A):dH k A.in1:=
 ⟨r.hd,by have:=r.dp;show A.depth+3*k+5<_;omega,by have:=r.un;show A.units+1+16*k+200<_;omega,r.gd⟩
theorem dH.depth {k:Nat}{A:Around}(r:dH k A):A.depth<recursionLimit:=by have:=r.dp;omega
theorem dH.units {k:Nat}{A:Around}(r:dH k A):A.units+64<cLine:=by have:=r.un;omega
noncomputable def Ab:TA:=fun _ H Q=>Q [] H
noncomputable def sC (ta:TE)(tr:TA):TA:=fun σ H Q=>ta σ H fun x H1=>tr σ H1 fun xs H2=>Q (x::xs) H2
section
variable {X:Cx}{e:Expr}{es:List Expr}{te:TE}{t:TA}{pos:Pos}
theorem ag:PA X [] Ab:=fun _ _ _ _ H Q I h=>Calls.spliced_nil ⟨[],H,I,.nil,h⟩
theorem aa (ha:PE X e te)(hr:PA X es t)(hs:starEach (e::es) X.env=(false,eval e X.env)::starEach es X.env:=by rfl):PA X (e::es) (sC te t):=by
 intro pos pins s σ H Q I h
 rw[hs]
 show wpAny _ _ (spliced ((false,eval e X.env)::backTo pos (starEach es X.env))) _ _ s
 refine Calls.spliced_cons (aR (ha s σ H _ I h) fun u s1 hz_ =>?_)
 refine ae.el hz_ _ ?_
 clear hz_
 rintro x H1 I1 r1 q1
 exact aR (hr s1 σ H1 _ I1 q1) fun us s2 hz_=>ae.el hz_ _ fun xs H2 I2 r2 q2=>⟨x::xs,H2,I2,.cons r1 r2,q2⟩
def DC (t:TA):TE:=fun σ H Q=>t σ H fun xs H1=>xs.length<=sizeLine/\∀p,H1 p=none->Q (.ref p) (upd H1 p (.tup xs))
def Fh (t:TA):TE:=fun σ H Q=>t σ H fun xs H1=>xs.length<=sizeLine/\∀p,H1 p=none->Q (.ref p) (upd H1 p (.lst xs))
theorem Cn {x1}(h:PA X es t):PE X (.Tuple es x1 pos) (DC t):=by
 intro pins s σ H Q I hq
 refine wpAny_Tuple_spliced (aR (h s σ H _ I hq) fun us s1 ⟨xs,H1,I1,r,z,q⟩=>⟨by rw[<-r.length];exact z,?_⟩)
 have hf:H1 s1.heap.objs.size=none:=I1.aZ.fresh (Jd _)
 refine⟨.ref s1.heap.objs.size,upd H1 s1.heap.objs.size (.tup xs),I1.laid (t':=s1.toks) (fun b u e=>Je _ e) (Jd _) ?_,rfl,q _ hf⟩
 exact⟨z,us,r,⟨_,Jv _ rfl,rfl,_,rfl⟩⟩
theorem CW (h:PA X es t):PE X (.List es pos) (Fh t):=by
 intro pins s σ H Q I hq
 refine wpAny_List_spliced (aR (h s σ H _ I hq) fun us s1 ⟨xs,H1,I1,r,z,q⟩=>⟨by rw[<-r.length];exact z,?_⟩)
 have hf:H1 s1.heap.objs.size=none:=I1.aZ.fresh (Jd _)
 refine⟨.ref s1.heap.objs.size,upd H1 s1.heap.objs.size (.lst xs),I1.laid (t':=s1.toks) (fun b u e=>Je _ e) (Jd _) ?_,rfl,q _ hf⟩
 exact⟨z,us,0,r,Jv _ rfl⟩
end
abbrev Sp:=List V->Hp->VK->XK->Prop
abbrev sv:=List Env->Hp->Shared->XK->Value->Shared->Prop
structure qB (P:Program)(w:World)(K:Jb)(mg:Str->Option Value)(base:Heap)(A:Around)(outer:List Env)(s:Shared)(H:Hp):Prop where
 frames:A.frames=some outer
 mod:Mod K mg base
 bs:∀b o,base.get? b=some o->s.heap.get? b=some o/\H b=none
 bsz:base.objs.size<=s.heap.objs.size
 g5:s.heap.FunFrames base outer
 qP:∀b∈i8 outer,H b=none
 aZ:eK P w H s.heap
 bare:AllBare s.gens
def CE (outer:List Env)(P:Program)(w:World)(H:Hp)(s:Shared)(Q:VK)(u:Value)(s':Shared):Prop:=
 ck fun v H'=>s'.os=s.os/\AllBare s'.gens/\Un (i8 outer) [] H H' s.heap s'.heap/\eK P w H' s'.heap/\RelV v u/\Q v H'
def CR (CX:sv)(outer:List Env)(P:Program)(w:World)(H:Hp)(s:Shared)(Q:VK)(E:XK)(r:Result)(s':Shared):Prop:=
 match r with
 | .ok (.ret u)=>CE outer P w H s Q u s'
 | .ok _=>False
 | .error e=>CX outer H s E e s'
structure bM (P:Program)(w:World)(K:Jb)(mg:Str->Option Value)(base:Heap)(CX:sv)(k:Nat)(f:Addr)(fd:FuncData)(ps:List Str)(sp:Sp):Prop where
 len:∀vs H Q E,sp vs H Q E->vs.length=ps.length
 run:∀(A:Around) (outer:List Env) (s:Shared) (H:Hp) (args:Args) (us:List Value) (vs:List V) (Q:VK) (E:XK),dH k A->qB P w K mg base A outer s H->BindsTo s fd args (ps.zip us)->Vals vs us->sp vs H Q E ->
  codeAny (model P w) A (.call (.ref f) args) (CR CX outer P w H s Q E) s
theorem bM.mono {P:Program}{w:World}{K:Jb}{mg:Str->Option Value}{base:Heap}{CX:sv}{j k:Nat}{f:Addr}{fd:FuncData}{ps:List Str}{sp:Sp}(F:bM P w K mg base CX j f fd ps sp)(h:j<=k):
  bM P w K mg base CX k f fd ps sp:=⟨F.len,fun A outer s H args us vs Q E hr=>F.run A outer s H args us vs Q E (hr.mono h)⟩
theorem bM.imp {P:Program}{w:World}{K:Jb}{mg:Str->Option Value}{base:Heap}{CX:sv}{k:Nat}{f:Addr}{fd:FuncData}{ps:List Str}{sp Dw:Sp}(F:bM P w K mg base CX k f fd ps sp)
  (h:∀vs H Q E,Dw vs H Q E->sp vs H Q E):bM P w K mg base CX k f fd ps Dw:=
 ⟨fun vs H Q E q=>F.len vs H Q E (h _ _ _ _ q),fun A outer s H args us vs Q E hr he hb hv hs=>F.run A outer s H args us vs Q E hr he hb hv (h _ _ _ _ hs)⟩
theorem qB.in1 {P:Program}{w:World}{K:Jb}{mg:Str->Option Value}{base:Heap}{A:Around}{outer:List Env}{s:Shared}{H:Hp}(e:qB P w K mg base A outer s H):
  qB P w K mg base A.in1 outer s H:=⟨e.frames,e.mod,e.bs,e.bsz,e.g5,e.qP,e.aZ,e.bare⟩
section
variable {X:Cx}{pins:List (Addr×Obj)}{σ:St}{H:Hp}{s s':Shared}
theorem Inv.Fe (I:Inv X pins σ H s):qB X.prog X.w X.K X.mg X.base X.A X.stack s H:=
 ⟨I.ok.frames,I.ok.mod,I.bs,Js I.ok.bsz I.sz,I.stack,I.rZ,I.aZ,I.bare⟩
theorem Inv.after {Q:VK}{u:Value}(I:Inv X pins σ H s)(h:CE X.stack X.prog X.w H s Q u s'):EP X pins σ Q u s':=by
 obtain⟨v,H',os,bare,un,aZ,r,q⟩:=h
 obtain⟨hh,g,d,t,os'⟩:=s'
 obtain rfl:os'=s.os:=os
 exact⟨v,H',I.call (h':=hh) (g':=g) (d':=d) (t':=t) (ch:=[]) un aZ bare (fun b z=>absurd z (by simp)),r,q⟩
end
def AX (sp:Sp)(Al:List V)(E:XK)(t:TA):TE:=fun σ H Q=>t σ H fun vs H1=>sp (vs++Al) H1 Q E
def Binds (K:Jb)(fd:FuncData)(ps:List Str)(ds:List Value):Prop:=
 ∀(s:Shared) (us:List Value),K.In s.heap->(us++ds).length=ps.length->BindsTo s fd ⟨us,[]⟩ (ps.zip (us++ds))
theorem Binds.all {K:Jb}{fd:FuncData}{ps:List Str}(h:∀us:List Value,us.length=ps.length->bindArgs fd ⟨us,[]⟩=pure (ps.zip us)):Binds K fd ps []:=fun s us _ hl=>by
 rw[Uh] at hl ⊢
 exact .of_eq (h us hl)
def Passes (CX:sv)(X:Cx)(E:XK):Prop:=∀(pins:List (Addr×Obj)) (σ:St) (H:Hp) (s:Shared) (e:Value) (s':Shared),Inv X pins σ H s->CX X.stack H s E e s'->X.xe e s'
section
variable {X:Cx}{CX:sv}{k:Nat}{f C:Addr}{fd:FuncData}{ps:List Str}{sp:Sp}{Al:List V}{ds:List Value}{E:XK}{x m:Str}{p pos apos:Pos}{e o:Expr}{es:List Expr}{ta:TE}{t:TA}
theorem Bq {pins:List (Addr×Obj)}{σ:St}{H:Hp}{s:Shared}{Q:VK}{us:List Value}{vs:List V}(F:bM X.prog X.w X.K X.mg X.base CX k f fd ps sp)(hr:dH k X.A)(hb:Binds X.K fd ps ds)(hd:Vals Al ds)(hx:Passes CX X E)
  (I:Inv X pins σ H s) (r:Vals vs us) (h:sp (vs++Al) H Q E):wpAny (model X.prog X.w) X.A (call (.ref f) us) (EP X pins σ Q) X.xe s:=by
 have r2:Vals (vs++Al) (us++ds):=r.append hd
 have hl:(us++ds).length=ps.length:=by rw[<-r2.length];exact F.len _ _ _ _ h
 refine wpAny_call (codeAny_mono (F.run X.A X.stack s H ⟨us,[]⟩ (us++ds) (vs++Al) Q E hr I.Fe (hb s us I.lV hl) r2 h) fun r s' hq =>?_)
 cases r with
 | error e=>exact hx pins σ H s e s' I hq
 | ok fl=>
  cases fl with
  | ret u=>exact I.after hq
  | next=>exact False.elim hq
  | brk=>exact False.elim hq
  | cont=>exact False.elim hq
theorem yp (F:bM X.prog X.w X.K X.mg X.base CX k f fd ps sp)(hr:dH k X.A)(hg:Gl X x)(hm:X.mg x=some (.ref f))(hk:PySem.W.keepIn X.K (.ref f)=true)(hb:Binds X.K fd ps ds)(hd:Vals Al ds)(hx:Passes CX X E)
  (ha:PA X (e::es) t) (wF:(x==("__debug__" : Str))=false:=by decide) (he:starEach (e::es) X.env=(false,eval e X.env)::starEach es X.env:=by rfl) (mH:(backTo pos (starEach es X.env)).any (·.1)=false:=by rfl) :
  PE X (.Call (.Name x p) (e::es) [] pos) (AX sp Al E t):=by
 intro pins s σ H Q I h
 refine wpAny_Call_Name_kw (nQ I hg hm ?_ wF)
 refine PySem.W.callWith_K (h₀:=X.base) I.ok.mod.kin hk (aR (ha s σ H _ I h) fun us s1 hz_=>ae.el hz_ _ fun vs H1 I1 r q=>⟨I1.lV,?_⟩) he mH
 exact Bq F hr hb hd hx I1 r q
end
def PK (X:Cx)(wU:List Keyword)(t:TA):Prop:=
 ∀ ⦃pos:Pos⦄ ⦃pins:List (Addr×Obj)⦄ (s:Shared) (σ:St) (H:Hp) (Q:List V->Hp->Prop),Inv X pins σ H s->t σ H Q->wpAny (model X.prog X.w) X.A (evalAll ((backToKw pos (keywordEach wU X.env)).map (·.2))) (AP X pins σ Q) X.xe s
section
variable {X:Cx}{CX:sv}{k:Nat}{f C:Addr}{fd:FuncData}{ps ks:List Str}{sp:Sp}{E:XK}{x m:Str}{p pos apos Ka:Pos}{e o:Expr}{es:List Expr}{wU:List Keyword}{te ta:TE}{t tk:TA}{nm:Option Str}
theorem CD:PK X [] Ab:=fun _ _ _ _ H Q I h=>wpAny_evalAll_nil ⟨[],H,I,.nil,h⟩
theorem yl (ha:PE X e te)(hr:PK X wU t):PK X (⟨nm,e,Ka⟩::wU) (sC te t):=by
 intro pos pins s σ H Q I h
 show wpAny _ _ (evalAll ((do let v <-eval e X.env;standAt pos;pure v)::(backToKw pos (keywordEach wU X.env)).map (·.2))) _ _ s
 refine wpAny_evalAll_cons (wpAny_bind (aR (ha s σ H _ I h) fun u s1 hz_=>ae.el hz_ _ fun x H1 I1 r1 q1=>wpAny_bind (wpAny_standAt (wpAny_pure ?_))))
 exact aR (hr s1 σ H1 _ I1 q1) fun us s2 hz_=>ae.el hz_ _ fun xs H2 I2 r2 q2=>⟨x::xs,H2,I2,.cons r1 r2,q2⟩
variable {g:List Value->List Value->List Value}{gV:List V->List V->List V}
end
structure aO (N P:List Str)(sc:Scope):Prop where
 kind:sc.kind = .function
 co:sc.isCoroutine=false
 gen:sc.isGenerator=false
 nd:N.Nodup
 pre:N.take P.length=P
 par:∀x∈P,sc.names.lookup x=some .local∨sc.names.lookup x=some .cell
 nofree:∀y∈sc.names,y.2 ≠ .free
theorem mB {kindOf:Str->Option NameKind}{x:Str}:∀{binds:List (Str×Value)} {m:Str->Option Value},(∀v,(x,v)∉binds)->bindL kindOf binds m x=m x
 | [],_,_=>rfl
 | (n,v)::r,m,h=>by
  unfold bindL
  rw[mB fun w hw=>h w (Jp _ hw)]
  split
  ·have:x≠n:=by rintro rfl;exact h v Jn
   simp[this]
  ·rfl
theorem mw {kindOf:Str->Option NameKind}{x:Str}:∀{binds:List (Str×Value)} {m:Str->Option Value},(∀v,(x,v)∉binds)->bindC kindOf binds m x=m x
 | [],_,_=>rfl
 | (n,v)::r,m,h=>by
  unfold bindC
  rw[mw fun w hw=>h w (Jp _ hw)]
  split
  ·rfl
  ·have:x≠n:=by rintro rfl;exact h v Jn
   simp[this]
theorem mr {kindOf:Str->Option NameKind}{x:Str}{v:Value}:∀{P:List Str} {vs:List Value} {i:Nat} {m:Str->Option Value},P.Nodup->P[i]? = some x->vs[i]? = some v->kindOf x=some .local ->
  bindL kindOf (P.zip vs) m x=some v
 | [],_,_,_,_,h,_,_=>by simp at h
 | _::_,[],_,_,_,_,h,_=>by simp at h
 | p::P,w::vs,0,m,nd,h1,h2,hk=>by
  simp at h1 h2;subst h1;subst h2
  show bindL kindOf ((p,w)::P.zip vs) m p=_
  unfold bindL
  rw[mB fun v hv=>(Yd.mp nd).1 (Wm hv).1,if_pos hk]
  simp
 | p::P,w::vs,i+1,m,nd,h1,h2,hk=>by
  show bindL kindOf ((p,w)::P.zip vs) m x=_
  unfold bindL
  exact mr (i:=i) (Yd.mp nd).2 (by simpa using h1) (by simpa using h2) hk
theorem mF {kindOf:Str->Option NameKind}{x:Str}{v:Value}:∀{P:List Str} {vs:List Value} {i:Nat} {m:Str->Option Value},P.Nodup->P[i]? = some x->vs[i]? = some v->kindOf x≠some .local ->
  bindC kindOf (P.zip vs) m x=some v
 | [],_,_,_,_,h,_,_=>by simp at h
 | _::_,[],_,_,_,_,h,_=>by simp at h
 | p::P,w::vs,0,m,nd,h1,h2,hk=>by
  simp at h1 h2;subst h1;subst h2
  show bindC kindOf ((p,w)::P.zip vs) m p=_
  unfold bindC
  rw[mw fun v hv=>(Yd.mp nd).1 (Wm hv).1,if_neg hk]
  simp
 | p::P,w::vs,i+1,m,nd,h1,h2,hk=>by
  show bindC kindOf ((p,w)::P.zip vs) m x=_
  unfold bindC
  exact mF (i:=i) (Yd.mp nd).2 (by simpa using h1) (by simpa using h2) hk
noncomputable def start (N:List Str)(vs:List V):St:=vs.map some++Jq (N.length-vs.length) none
noncomputable def tX (CX:sv)(P:Program)(w:World)(K:Jb)(mg:Str->Option Value)(base:Heap)(N:List Str)(qual:Str)(scope:Scope)(f:Addr)(cd:Value)(A:Around)(outer:List Env)(s:Shared)(H:Hp)(E:XK):Cx where
 prog:=P
 w:=w
 K:=K
 mg:=mg
 base:=base
 A:=A.deeper (envOfC qual scope s.heap.objs.size f cd)
 N:=N
 s₀:=s
 H₀:=H
 env:=envOfC qual scope s.heap.objs.size f cd
 outer:=outer
 stack:=envOfC qual scope s.heap.objs.size f cd::outer
 ex:=[]
 calm:=true
 fn:=fun _=>true
 pn:=[]
 xe:=fun e s'=>wpAny (model P w) (A.deeper (envOfC qual scope s.heap.objs.size f cd)) (leaving (envOfC qual scope s.heap.objs.size f cd) e) (fun _ s''=>CX outer H s E e s'') (fun e' s''=>CX outer H s E e' s'') s'
theorem pB {sc:Scope}{n:Nat}{x:Str}(h:sc.names.lookup x=some .cell):∃c,(cellsFrom n sc.names []).lookup x=some c:=by
 have q:=PySem.W.cellsFrom_some sc.names n [] (.inl h)
 exact Option.isSome_iff_exists.mp q
theorem uR {CX:sv}{P:Program}{w:World}{K:Jb}{mg:Str->Option Value}{base:Heap}{N ps:List Str}{qual:Str}{scope:Scope}{f:Addr}{cd:Value}{A:Around}{outer:List Env}{s s1:Shared}{H:Hp}{E:XK}{us:List Value}{vs:List V}
  (S:aO N ps scope) (hd:A.handled=none) (e0:qB P w K mg base A outer s H) (hl:vs.length=ps.length) (r:Vals vs us)
  (x:InCallC s s.heap.objs.size (bindL (envOfC qual scope s.heap.objs.size f cd).kindOf (ps.zip us) fun _=>none) (cellsFrom (s.heap.objs.size+1) scope.names []) (bindC (envOfC qual scope s.heap.objs.size f cd).kindOf (ps.zip us) fun _=>none) s1) :
  Inv (tX CX P w K mg base N qual scope f cd A outer s H E) [] (start N vs) H s1:=by
 have mH:ps.length<=N.length:=by have:=congrArg Ur S.pre;rw[Jr] at this;omega
 obtain⟨h1,tk,rfl,hk⟩:=x.done
 have ES:∀b:Addr,b∉(tX CX P w K mg base N qual scope f cd A outer s H E).ex:=fun b z=>absurd (show b∈([]:List Addr) from z) (by simp)
 refine⟨⟨e0.mod,S.kind,rfl,rfl,Jd _,fun y z c h1 h2 =>?_,fun y hy =>?_,fun y c _ h =>?_,fun _=>hd,Around.frames_deeper e0.frames,.inr ⟨rfl,rfl⟩,fun b z=>absurd z (ES b),e0.bs,e0.bsz,fun b _ _=>ES b,fun b z=>absurd z (ES b),e0.g5,e0.qP⟩,
  rfl,e0.bare,Un.kept hk,⟨_,x.toInCall.ns,fun i y v h1 h2 h3 =>?_⟩,fun y c h=>⟨_,x.cell y c h⟩,e0.aZ.fresh (Jd _),fun y c h =>?_,fun p hp=>absurd (show p∈([]:List (Addr×Obj)) from hp) (by simp),e0.aZ.kept hk,?_⟩
 ·exact name_of_addr x.apart (PySem.mem_of_lookup h1) (PySem.mem_of_lookup h2)
 ·have hy:scope.names.lookup y=some .cell∨scope.names.lookup y=some .free:=hy
  rcases hy with hy|hy
  ·exact pB hy
  ·exact absurd rfl (S.nofree _ (PySem.mem_of_lookup hy))
 ·exact U8 (x.above y c (PySem.mem_of_lookup h))
 ·have hi:i<vs.length:=by
   unfold start at h2
   by_cases hi:i<vs.length
   ·exact hi
   ·rw[Ui (by simpa using hi)] at h2
    rw[Yz] at h2
    split at h2<;>cases h2
  have ha:vs[i]? = some v:=by
   unfold start at h2
   rw[Ut (by simpa using hi),Jj] at h2
   cases e:vs[i]? with
   | none=>rw[e] at h2;cases h2
   | some a=>rw[e] at h2;cases h2;rfl
  obtain⟨u,hu,rv⟩:=r.get ha
  have hp:ps[i]? = some y:=by
   rw[<-S.pre,List.getElem?_take_of_lt (by omega)];exact h1
  have MF:ps.Nodup:=by rw[<-S.pre];exact S.nd.sublist (Wc _ _)
  refine⟨u,rv,?_⟩
  rcases S.par y (Wo hp) with k|k
  ·exact .inl ⟨k,mr MF hp hu k⟩
  ·obtain⟨c,e⟩:=pB (n:=s.heap.objs.size+1) k
   refine .inr ⟨.inl k,c,e,?_⟩
   have q:=x.cell y c e
   rw[mF MF hp hu (by show scope.names.lookup y≠_;rw[k];decide)] at q
   exact q
 ·exact e0.aZ.fresh (U8 (x.above y c (PySem.mem_of_lookup h)))
 ·unfold start
  show _=N.length
  rw[Jc,Ja,Uy]
  omega
theorem F0 {CX:sv}{P:Program}{w:World}{K:Jb}{mg:Str->Option Value}{base:Heap}{k:Nat}{f:Addr}{name qual:Str}{params:Arguments}{body:List Stmt}{scope:Scope}{dV kV doc pm dG ct oc:Value}{an od:Option Addr}
  {Ay:Array (Option Value)} {N ps:List Str} {sp:Sp} (lk:K.lookup f=some ⟨oc,od,.func (Wz name qual params body scope dV kV doc pm an dG ct),Ay⟩) (vB:PySem.W.codeIn K dG qual=true) (S:aO N ps scope)
  (len:∀vs H Q E,sp vs H Q E->vs.length=ps.length)
  (v8:∀(A:Around) (outer:List Env) (s:Shared) (H:Hp) (vs:List V) (Q:VK) (E:XK),dH k (A.deeper (envOfC qual scope s.heap.objs.size f dG))->sp vs H Q E ->
   ∃t,rP (tX CX P w K mg base N qual scope f dG A outer s H E) body t/\t { nx:=fun _ H'=>Q .non H',rt:=Q } (start N vs) H) :
  bM P w K mg base CX (k+1) f (Wz name qual params body scope dV kV doc pm an dG ct) ps sp:=by
 refine⟨len,fun A outer s H args us vs Q E hr e0 hb r pZ =>?_⟩
 have hl:=len _ _ _ _ pZ
 have KX:K.In s.heap:=e0.mod.kin.keeps fun b o e=>(e0.bs b o e).1
 have lim:s.heap.NoLimit:=e0.mod.nolimit.keeps fun b o e=>(e0.bs b o e).1
 have D3:∀y∈ps.zip us,scope.names.lookup y.1=some .local∨(scope.names.lookup y.1=some .cell/\((cellsFrom (s.heap.objs.size+1) scope.names []).lookup y.1).isSome=true):=fun⟨n,v⟩ hy=>by
  rcases S.par n (Wm hy).1 with q|q
  ·exact .inl q
  ·exact .inr ⟨q,PySem.W.cellsFrom_some _ _ _ (.inl q)⟩
 refine codeAny_call_function hr.depth (KX _ _ lk) rfl S.co S.gen rfl (PySem.W.codeRec_of KX vB) (hb _ _ _ _ ?_)
 refine wpAny_newFunctionEnv_cells S.kind D3 fun env he s1 x =>?_
 subst he
 refine⟨lim.keeps x.toInCall.keep,codeAny_func ?_⟩
 obtain⟨t,ht,hq⟩:=v8 A outer s H vs Q E (hr.deeper _) pZ
 have I:Inv (tX CX P w K mg base N qual scope f dG A outer s H E) [] (start N vs) H s1:=uR S hr.hd e0 hl r x
 refine wpAny_mono (ht s1 (start N vs) H _ I hq) (fun fl s' hs =>?_) fun e s' hs=>hs
 have fin:∀{σ':St} {H':Hp} {v:V} {u:Value},Inv (tX CX P w K mg base N qual scope f dG A outer s H E) [] σ' H' s'->RelV v u->Q v H'->CE outer P w H s Q u s':=
  fun{σ' H' v u} J rv q=>⟨v,H',J.os,J.bare,J.base,J.aZ,rv,q⟩
 cases fl with
 | ret u=>
  obtain⟨v,σ',H',J,rv,q⟩:=hs
  exact fin J rv q
 | next=>
  obtain⟨σ',H',J,q⟩:=hs
  exact fin (v:=V.non) (u:=Value.none) J rfl q
 | brk=>
  obtain⟨_,_,_,q⟩:=hs
  exact False.elim q
 | cont=>
  obtain⟨_,_,_,q⟩:=hs
  exact False.elim q
section
variable {X:Cx}{x:Str}{p pos:Pos}{e:Expr}{es:List Expr}{t:TA}{id T:String}{r:List V->Hp->VK->Prop}
def Kz (r:List V->Hp->VK->Prop)(t:TA):TE:=fun σ H Q=>t σ H fun vs H1=>r vs H1 Q
theorem au (hc:cn X (.builtin id) r)(hg:Gl X x)(hm:X.mg x=none)(hv:bootBuiltins x=some (.builtin id))(ha:PA X (e::es) t)(hn:x ≠ "__name__":=by decide)(wF:(x==("__debug__" : Str))=false:=by decide)
  (he:starEach (e::es) X.env=(false,eval e X.env)::starEach es X.env:=by rfl) (mH:(backTo pos (starEach es X.env)).any (·.1)=false:=by rfl):PE X (.Call (.Name x p) (e::es) [] pos) (Kz r t):=by
 intro pins s σ H Q I h
 refine wpAny_Call_Name_kw (gG I hg hm hv ?_ hn wF)
 exact PyProof.Rows.callWith_builtin1 (aR (ha s σ H _ I h) fun us s1 hz_=>ae.el hz_ _ fun vs H1 I1 r1 q1=>hc s1 σ H1 vs us Q I1 r1 q1) he mH
theorem dJ (hc:cn X (.type T) r)(hg:Gl X x)(hm:X.mg x=none)(hv:bootBuiltins x=some (.type T))(ha:PA X (e::es) t)(hn:x ≠ "__name__":=by decide)(wF:(x==("__debug__" : Str))=false:=by decide)
  (he:starEach (e::es) X.env=(false,eval e X.env)::starEach es X.env:=by rfl) (mH:(backTo pos (starEach es X.env)).any (·.1)=false:=by rfl):PE X (.Call (.Name x p) (e::es) [] pos) (Kz r t):=by
 intro pins s σ H Q I h
 refine wpAny_Call_Name_kw (gG I hg hm hv ?_ hn wF)
 exact PyProof.Rows.callWith_type1 (aR (ha s σ H _ I h) fun us s1 hz_=>ae.el hz_ _ fun vs H1 I1 r1 q1=>hc s1 σ H1 vs us Q I1 r1 q1) he mH
end
section
variable {κ:Type}[DecidableEq κ]
noncomputable def az (kvs:List (κ×V))(k: κ):Option V:=(kvs.find? fun kv=>decide (kv.1=k)).map (·.2)
noncomputable def putK (kvs:List (κ×V))(k: κ)(v:V):List (κ×V):=
 if (kvs.any fun kv=>decide (kv.1=k))=true then kvs.map (fun kv=>if kv.1=k then (kv.1,v) else kv) else kvs++[(k,v)]
theorem bR {p: κ×V}{r:List (κ×V)}{k: κ}(e:p.1=k):az (p::r) k=some p.2:=by simp[az,List.find?_cons,e]
theorem bH {p: κ×V}{r:List (κ×V)}{k: κ}(e:¬p.1=k):az (p::r) k=az r k:=by simp[az,List.find?_cons,e]
theorem d4 (k: κ):∀kvs:List (κ×V),(kvs.any fun kv=>decide (kv.1=k))=(az kvs k).isSome
 | []=>rfl
 | p::r=>by
  rw[List.any_cons]
  by_cases e:p.1=k
  ·simp only[bR e,decide_eq_true e,Bool.true_or,Option.isSome_some]
  ·rw[bH e,decide_eq_false e,Bool.false_or];exact d4 k r
theorem pQ (k j: κ)(y:V):∀kvs:List (κ×V),az (kvs.map fun kv=>if kv.1=k then (kv.1,y) else kv) j=(az kvs j).map fun x=>if j=k then y else x
 | []=>rfl
 | p::r=>by
  have ih:=pQ k j y r
  rw[Uc]
  by_cases h:p.1=k
  ·rw[if_pos h]
   by_cases e:p.1=j
   ·rw[bR (p:=(p.1,y)) e,bR e,Option.map_some,if_pos (e.symm.trans h)]
   ·rw[bH (p:=(p.1,y)) e,bH e,ih]
  ·rw[if_neg h]
   by_cases e:p.1=j
   ·rw[bR (p:=p) e,bR e,Option.map_some,if_neg (fun z=>h (e.trans z))]
   ·rw[bH (p:=p) e,bH e,ih]
theorem jd (k j: κ)(y:V):∀kvs:List (κ×V),az kvs k=none->az (kvs++[(k,y)]) j=if j=k then some y else az kvs j
 | [],_=>by
  by_cases e:k=j
  ·rw[if_pos e.symm];exact bR (p:=(k,y)) e
  ·rw[if_neg (fun z=>e z.symm)];exact bH (p:=(k,y)) e
 | p::r,hn=>by
  rw[List.cons_append]
  have hk:¬p.1=k:=fun z=>by rw[bR z] at hn;cases hn
  rw[bH hk] at hn
  have ih:=jd k j y r hn
  by_cases e:p.1=j
  ·rw[bR e,bR e,if_neg (fun z=>hk (e.trans z))]
  ·rw[bH e,bH e,ih]
theorem iJ (kvs:List (κ×V))(k j: κ)(y:V):az (putK kvs k y) j=if j=k then some y else az kvs j:=by
 unfold putK
 by_cases a:(kvs.any fun kv=>decide (kv.1=k))=true
 ·rw[if_pos a,pQ]
  rw[d4] at a
  by_cases e:j=k
  ·obtain⟨x,hx⟩:=Option.isSome_iff_exists.mp a
   rw[if_pos e,e,hx,Option.map_some,if_pos rfl]
  ·rw[if_neg e]
   cases az kvs j with
   | none=>rfl
   | some x=>rw[Option.map_some,if_neg e]
 ·rw[if_neg a]
  refine jd k j y kvs ?_
  rw[d4] at a
  cases q:az kvs k with
  | none=>rfl
  | some x=>rw[q] at a;exact(a rfl).elim
theorem eE (kvs:List (κ×V))(k: κ)(v:V):(putK kvs k v).length<=kvs.length+1:=by
 unfold putK
 split
 ·rw[Ja];omega
 ·rw[Jc,Jx,Yx];omega
theorem cM {kvs:List (κ×V)}{k: κ}(v:V)(h:az kvs k=none):putK kvs k v=kvs++[(k,v)]:=by
 unfold putK
 rw[d4,h]
 exact if_neg (by decide)
theorem kK.fe {o:Option V}{u:Option Value}(r:kK o u):o.isSome=u.isSome:=by
 cases o with
 | none=>cases u with
  | none=>rfl
  | some _=>exact(show False from r).elim
 | some _=>cases u with
  | none=>exact(show False from r).elim
  | some _=>rfl
theorem KV.val {kvs:List (κ×V)}{vs:List (κ×Value)}(r:KV kvs vs)(k: κ):kK (az kvs k) (valueAt vs k):=by
 unfold KV at r
 induction r with
 | nil=>exact True.intro
 | @cons p q ps qs h t ih=>
  obtain⟨h1,h2⟩:=h
  by_cases e:p.1=k
  ·have e':q.1=k:=h1.symm.trans e
   have b:valueAt (q::qs) k=some q.2:=by simp[valueAt,List.find?_cons,e']
   rw[bR e,b];exact h2
  ·have e':¬q.1=k:=fun z=>e (h1.trans z)
   have b:valueAt (q::qs) k=valueAt qs k:=by simp[valueAt,List.find?_cons,e']
   rw[bH e,b];exact ih
theorem KV.any {kvs:List (κ×V)}{vs:List (κ×Value)}(r:KV kvs vs)(k: κ):(kvs.any fun kv=>decide (kv.1=k))=vs.any fun kv=>decide (kv.1=k):=by
 unfold KV at r
 induction r with
 | nil=>rfl
 | cons h t ih=>rw[List.any_cons,List.any_cons,ih,h.1]
theorem KV.CM {kvs:List (κ×V)}{vs:List (κ×Value)}(r:KV kvs vs)(k: κ){y:V}{u:Value}(ry:RelV y u):
  KV (kvs.map fun kv=>if kv.1=k then (kv.1,y) else kv) (vs.map fun kv=>if kv.1=k then (kv.1,u) else kv):=by
 unfold KV at r ⊢
 induction r with
 | nil=>exact .nil
 | @cons p q ps qs h t ih=>
  rw[Uc,Uc]
  refine .cons ?_ ih
  obtain⟨h1,h2⟩:=h
  by_cases e:p.1=k
  ·rw[if_pos e,if_pos (h1.symm.trans e)];exact⟨h1,ry⟩
  ·rw[if_neg e,if_neg (fun z=>e (h1.trans z))];exact⟨h1,h2⟩
theorem KV.put {kvs:List (κ×V)}{vs:List (κ×Value)}(r:KV kvs vs)(k: κ){y:V}{u:Value}(ry:RelV y u):KV (putK kvs k y) (stored vs k u):=by
 unfold putK stored
 rw[r.any k]
 by_cases e:(vs.any fun kv=>decide (kv.1=k))=true
 ·rw[if_pos e,if_pos e];exact r.CM k ry
 ·rw[if_neg e,if_neg e];exact Paired.snoc r ⟨rfl,ry⟩
theorem KV.length {kvs:List (κ×V)}{vs:List (κ×Value)}(r:KV kvs vs):kvs.length=vs.length:=Paired.length r
end
theorem jD {P:Program}{w:World}{k:Key}{u:Value}(r:RelV (kV k) u):(bj P w).is k u=true:=by
 cases k with
 | inl i=>obtain⟨t,e⟩:=(show ∃t,u=Value.int i t from r);subst e;exact pH P w i t
 | inr x=>obtain⟨t,e⟩:=(show ∃t,u=Value.str x t from r);subst e;exact oA P w x t
theorem mJ {P:Program}{w:World}:∀{ks:List Key} {us:List Value},Vals (ks.map kV) us->ItemsAre (bj P w) ks us
 | [],_,r=>by rw[List.map_nil] at r;cases r;exact .nil
 | k::ks,_,r=>by
  rw[Uc] at r
  cases r with
  | cons h t=>exact .cons (jD h) (mJ t)
abbrev KT (H:Hp):List (List Key×V)->List (List Key×Addr×Value)->Prop:=Paired fun p q=>p.1=q.1/\H q.2.1=some (.tup (p.1.map kV))/\RelV p.2 q.2.2
theorem KT.val {H:Hp}{kvs:List (List Key×V)}{xs:List (List Key×Addr×Value)}(r:KT H kvs xs)(k:List Key):kK (az kvs k) ((atKey xs k).map (·.2)):=by
 induction r with
 | nil=>exact True.intro
 | @cons p q ps qs h t ih=>
  obtain⟨h1,_,h2⟩:=h
  by_cases e:p.1=k
  ·have e':q.1=k:=h1.symm.trans e
   have b:atKey (q::qs) k=some q.2:=by simp[atKey,List.find?_cons,e']
   rw[bR e,b];exact h2
  ·have e':¬q.1=k:=fun z=>e (h1.trans z)
   have b:atKey (q::qs) k=atKey qs k:=by simp[atKey,List.find?_cons,e']
   rw[bH e,b];exact ih
theorem KT.CM {H:Hp}{kvs:List (List Key×V)}{xs:List (List Key×Addr×Value)}(r:KT H kvs xs)(k:List Key){y:V}{u:Value}(ry:RelV y u):
  KT H (kvs.map fun kv=>if kv.1=k then (kv.1,y) else kv) (xs.map (putAt k u)):=by
 induction r with
 | nil=>exact .nil
 | @cons p q ps qs h t ih=>
  rw[Uc,Uc]
  refine .cons ?_ ih
  obtain⟨h1,h2,h3⟩:=h
  unfold putAt
  by_cases e:p.1=k
  ·rw[if_pos e,if_pos (h1.symm.trans e)];exact⟨h1,h2,ry⟩
  ·rw[if_neg e,if_neg (fun z=>e (h1.trans z))];exact⟨h1,h2,h3⟩
theorem KT.put {H:Hp}{kvs:List (List Key×V)}{xs:List (List Key×Addr×Value)}(r:KT H kvs xs)(k:List Key){b:Addr}{y:V}{u:Value}(hb:H b=some (.tup (k.map kV)))(ry:RelV y u):
  KT H (putK kvs k y) (storedH xs k b u):=by
 have e:(kvs.any fun kv=>decide (kv.1=k))=(atKey xs k).isSome:=by
  rw[d4,(r.val k).fe,Option.isSome_map]
 unfold putK storedH
 rw[e]
 by_cases q:(atKey xs k).isSome=true
 ·rw[if_pos q,if_pos q];exact r.CM k ry
 ·rw[if_neg q,if_neg q];exact Paired.snoc r ⟨rfl,hb,ry⟩
theorem KT.keeps {H H':Hp}{kvs:List (List Key×V)}{xs:List (List Key×Addr×Value)}(r:KT H kvs xs)(ht:∀b ys,H b=some (.tup ys)->H' b=some (.tup ys)):KT H' kvs xs:=
 Paired.Br r fun _ _ z=>⟨z.1,ht _ _ z.2.1,z.2.2⟩
section
variable {P:Program}{w:World}{H:Hp}{h:Heap}{a:Addr}
theorem AN {u:HO}(ok:eK P w H h)(e:Rd H a u):bo P w H h a u:=e.ok ok
theorem mI {kvs:List (Key×V)}(ok:eK P w H h)(e:Rd H a (.dK kvs)):kvs.length<=sizeLine/\(a==sysModules)=false/\∃vs,KV kvs vs/\h.DictOf (bj P w) a vs:=
 show bo P w H h a (.dK kvs) from AN ok e
theorem xp {kvs:List (Key×V)}(ok:eK P w H h)(e:H a=some (.dK kvs)):kvs.length<=sizeLine/\(a==sysModules)=false/\∃vs,KV kvs vs/\h.DictOf (bj P w) a vs:=mI ok (.inl e)
theorem jo {ks:List Key}(ok:eK P w H h)(e:H a=some (.tup (ks.map kV))):(tupleKind (bj P w)).is h ks a:=by
 obtain⟨_,av,r,o,h1,h2,n,h3⟩:=(show bo P w H h a (.tup (ks.map kV)) from ok a _ e)
 exact⟨o,av.toArray,n,h1,h2,h3,by simpa using mJ r⟩
theorem lR {kvs:List (List Key×V)}(ok:eK P w H h)(e:Rd H a (.dT kvs)):kvs.length<=sizeLine/\(a==sysModules)=false /\
  ∃xs,KT H kvs xs/\h.DictOfH (tupleKind (bj P w)) a xs:=by
 obtain⟨z,y,xs,r,o,es,ep,h1,h2,h3,h4,h5⟩:=(show bo P w H h a (.dT kvs) from AN ok e)
 refine⟨z,y,xs,r,o,es,ep,h1,h2,h3,h4,fun x hx =>?_,h5⟩
 have all:∀{l:List (List Key×V)} {m:List (List Key×Addr×Value)},KT H l m->∀x∈m,(tupleKind (bj P w)).is h x.1 x.2.1:=by
  intro l m q
  induction q with
  | nil=>intro x hx;exact nomatch hx
  | @cons p q ps qs hq t ih=>
   intro x hx
   rcases Um.mp hx with e|hx
   ·subst e
    exact jo ok (by rw[<-hq.1];exact hq.2.1)
   ·exact ih x hx
 exact all r x hx
theorem w6 {kvs:List (List Key×V)}(ok:eK P w H h)(e:H a=some (.dT kvs)):kvs.length<=sizeLine/\(a==sysModules)=false /\
  ∃xs,KT H kvs xs/\h.DictOfH (tupleKind (bj P w)) a xs:=lR ok (.inl e)
end
def dR (H:Hp)(a:Addr)(y:V)(r:Option V):Prop:=
 (ck fun kvs k=>Rd H a (.dK kvs)/\y=kV k/\r=az kvs k)∨fR fun kvs k b=>Rd H a (.dT kvs)/\y = .ref b/\H b=some (.tup (k.map kV))/\r=az kvs k
def iW (H:Hp)(a:Addr)(y v:V)(H':Hp):Prop:=
 (ck fun kvs k=>H a=some (.dK kvs)/\y=kV k/\kvs.length<sizeLine/\H'=upd H a (.dK (putK kvs k v))) ∨
 fR fun kvs k b=>H a=some (.dT kvs)/\y = .ref b/\H b=some (.tup (k.map kV))/\kvs.length<sizeLine/\H'=upd H a (.dT (putK kvs k v))
theorem dR.k {H:Hp}{a:Addr}{kvs:List (Key×V)}{k:Key}(e:H a=some (.dK kvs)):dR H a (kV k) (az kvs k) := .inl ⟨kvs,k,.inl e,rfl,rfl⟩
theorem dR.t {H:Hp}{a b:Addr}{kvs:List (List Key×V)}{k:List Key}(e:H a=some (.dT kvs))(eb:H b=some (.tup (k.map kV))):dR H a (.ref b) (az kvs k) := .inr ⟨kvs,k,b,.inl e,rfl,eb,rfl⟩
theorem iW.k {H:Hp}{a:Addr}{kvs:List (Key×V)}{k:Key}{v:V}(e:H a=some (.dK kvs))(hl:kvs.length<sizeLine):iW H a (kV k) v (upd H a (.dK (putK kvs k v))) := .inl ⟨kvs,k,e,rfl,hl,rfl⟩
theorem iW.t {H:Hp}{a b:Addr}{kvs:List (List Key×V)}{k:List Key}{v:V}(e:H a=some (.dT kvs))(eb:H b=some (.tup (k.map kV)))(hl:kvs.length<sizeLine):
  iW H a (.ref b) v (upd H a (.dT (putK kvs k v))) := .inr ⟨kvs,k,b,e,rfl,eb,hl,rfl⟩
section
variable {X:Cx}{pins:List (Addr×Obj)}{σ:St}{H:Hp}{s:Shared}{a:Addr}{y v:V}{u r:Value}{o:Option V}{A:Around}{E:Value->Shared->Prop}
theorem Inv.big (I:Inv X pins σ H s):sysModules<s.heap.objs.size:=by
 have h:mainGlobals<s.heap.objs.size:=(I.mod.glob.keeps I.bk).lt
 exact Wq (by decide) h
theorem uW {Q:Value->Shared->Prop}(hu:A.units+1<cLine)(I:Inv X pins σ H s)(g:dR H a y (some v))(ry:RelV y u)(h:∀w' s',Inv X pins σ H s'->RelV v w'->Q w' s'):
  wpAny (model X.prog X.w) A (getItem (.ref a) u) Q E s:=by
 rcases g with ⟨kvs,k,e,ey,l⟩|⟨kvs,k,b,e,ey,eb,l⟩
 ·subst ey
  obtain⟨z,hd,vs,rel,dd⟩:=mI I.aZ e
  obtain⟨w',hw,qm⟩:=kK.some_of (v:=v) (o:=valueAt vs k) (by rw[l];exact rel.val k)
  exact wpAny_getItem_of (jD ry) dd.mapOf hw (h w' _ (I.tok _) qm)
 ·subst ey
  cases (show u=Value.ref b from ry)
  obtain⟨z,hd,xs,rel,dd⟩:=lR I.aZ e
  obtain⟨w',hw,qm⟩:=kK.some_of (v:=v) (o:=(atKey xs k).map (·.2)) (by rw[l];exact rel.val k)
  obtain⟨p,hp,uk⟩:=Option.map_eq_some_iff.mp hw
  refine wpAny_getItem_heap (tupleKind_room_in1 hu) (jo I.aZ eb) dd hp ?_
  rw[uk]
  exact h w' _ (I.tok _) qm
theorem K8 {Q:Value->Shared->Prop}(hu:A.units+1<cLine)(I:Inv X pins σ H s)(g:dR H a y o)(ry:RelV y u)(h:∀s',Inv X pins σ H s'->Q (.bool o.isSome) s'):
  wpAny (model X.prog X.w) A (compareOp .In u (.ref a)) Q E s:=by
 rcases g with ⟨kvs,k,e,ey,l⟩|⟨kvs,k,b,e,ey,eb,l⟩
 ·subst ey
  obtain⟨z,hd,vs,rel,dd⟩:=mI I.aZ e
  refine wpAny_in_of (jD ry) hd dd.mapOf ?_
  rw[<-(rel.val k).fe,<-l]
  exact h _ (I.tok _)
 ·subst ey
  cases (show u=Value.ref b from ry)
  obtain⟨z,hd,xs,rel,dd⟩:=lR I.aZ e
  refine wpAny_in_heap (tupleKind_room_in1 hu) (jo I.aZ eb) hd dd ?_
  have q:=(rel.val k).fe
  rw[Option.isSome_map] at q
  rw[<-q,<-l]
  exact h _ (I.tok _)
theorem yQ {Q:Value->Shared->Prop}(hu:A.units+1<cLine)(I:Inv X pins σ H s)(g:dR H a y o)(ry:RelV y u)(h:∀s',Inv X pins σ H s'->Q (.bool (!o.isSome)) s'):
  wpAny (model X.prog X.w) A (compareOp .NotIn u (.ref a)) Q E s:=by
 rcases g with ⟨kvs,k,e,ey,l⟩|⟨kvs,k,b,e,ey,eb,l⟩
 ·subst ey
  obtain⟨z,hd,vs,rel,dd⟩:=mI I.aZ e
  refine wpAny_notIn_of (jD ry) hd dd.mapOf ?_
  rw[<-(rel.val k).fe,<-l]
  exact h _ (I.tok _)
 ·subst ey
  cases (show u=Value.ref b from ry)
  obtain⟨z,hd,xs,rel,dd⟩:=lR I.aZ e
  refine wpAny_notIn_heap (tupleKind_room_in1 hu) (jo I.aZ eb) hd dd ?_
  have q:=(rel.val k).fe
  rw[Option.isSome_map] at q
  rw[<-q,<-l]
  exact h _ (I.tok _)
theorem gP {h':Heap}{t':Nat}{ob:HO}(I:Inv X pins σ H s)(mu:EV (H a))(hs:Yr a s.heap h')(he:∃q,h'.get? a=some q)(new:bo X.prog X.w (upd H a ob) h' a ob):
  Inv X pins σ (upd H a ob) { s with heap:=h',toks:=t' }:=
 I.write (x:=a) (e:=a) mu (.inl rfl) (fun b q hb z=>(hs.2 b hb).trans z) he new
theorem nN {P:Program}{w:World}{H':Hp}{h':Heap}{kvs:List (Key×V)}{vs:List (Key×Value)}(z:kvs.length<=sizeLine)(hd:(a==sysModules)=false)(rel:KV kvs vs)(dd:h'.DictOf (bj P w) a vs):
  bo P w H' h' a (.dK kvs):=⟨z,hd,vs,rel,dd⟩
theorem ue {H':Hp}{Q:Unit->Shared->Prop}(hu:A.units+1<cLine)(I:Inv X pins σ H s)(g:iW H a y v H')(ry:RelV y u)(rv:RelV v r)(h:∀s',Inv X pins σ H' s'->Q () s'):
  wpAny (model X.prog X.w) A (setItem (.ref a) u r) Q E s:=by
 rcases g with ⟨kvs,k,e,ey,l,eH⟩|⟨kvs,k,b,e,ey,eb,l,eH⟩
 ·subst ey eH
  obtain⟨z,hd,vs,rel,dd⟩:=xp I.aZ e
  have hz:vs.length<=sizeLine:=by rw[<-rel.length];exact z
  have hl:(putK kvs k v).length<=sizeLine:=by have:=eE kvs k v;omega
  refine wpAny_setItem_pairs (hsz:=hz) (jD ry) dd fun h' dd' hs=>h _ ?_
  have he:∃q,h'.get? a=some q:=let ⟨q,_,_,hq,_⟩:=dd'; ⟨q,hq⟩
  exact gP I (by rw[e];exact True.intro) hs he (nN hl hd (rel.put k rv) dd')
 ·subst ey eH
  cases (show u=Value.ref b from ry)
  obtain⟨z,hd,xs,rel,dd⟩:=w6 I.aZ e
  have hz:xs.length<=sizeLine:=by rw[<-Paired.length rel];exact z
  have hl:(putK kvs k v).length<=sizeLine:=by have:=eE kvs k v;omega
  refine wpAny_setItem_heap (hsz:=hz) (tupleKind_room_in1 hu) (jo I.aZ eb) dd fun h' dd' hs=>h _ ?_
  obtain⟨q,es,ep,hq,h2,h3,h4,_,h5⟩:=dd'
  refine gP I (by rw[e];exact True.intro) hs ⟨q,hq⟩ ⟨hl,hd,_,(rel.put k eb rv).keeps fun c ys ec =>?_,q,es,ep,hq,h2,h3,h4,h5⟩
  rw[aq (wq ec e (fun z=>nomatch z))]
  exact ec
end
def Ge (i:Expr):Prop:=∀ov iv,subscripted i false ov iv=operate [ov,iv] (getItem ov iv)
theorem yK {prog:Program}{w:World}{A:Around}{E:Value->Shared->Prop}{s:Shared}{env:Env}{value slice:Expr}{pos:Pos}{T id:String}{Q:Value->Shared->Prop}
  (hl:typeLookup (.type T) "__getitem__" = pure (some (.builtin id))) (hs:Ge slice)
  (h:wpAny (model prog w) A (eval value env) (fun o s₁=>wpAny (model prog w) A (eval slice env) (fun i s₂=>s₂.TypeIs o T/\wpAny (model prog w) A (getItem o i) Q E s₂) E s₁) E s) :
  wpAny (model prog w) A (eval (.Subscript value slice pos) env) Q E s:=by
 refine Subscript_ (wpAny_mono h (fun o s₁ h₁=>wpAny_mono h₁ (fun i s₂ h₂ =>?_) fun _ _ x=>x) fun _ _ x=>x)
 obtain⟨hT,h₂⟩:=h₂
 unfold subscriptTail
 refine wpAny_bind ?_
 rw[getitemInPython_of_ne hT.not_modules]
 refine wpAny_bind (wpAny_specialOf hT hl ?_)
 have fin:wpAny (model prog w) A (subscripted slice false o i) (fun r s₃=>wpAny (model prog w) A (letTemporaryGo value o r >>= fun _=>pure r) Q E s₃) E s₂:=by
  rw[hs o i]
  exact wpAny_operating (wpAny_mono h₂ (fun r s₃ h₃=>wpAny_bind (wpAny_letTemporaryGo (wpAny_pure h₃))) fun _ _ x=>x)
 first
  | exact wpAny_pure (wpAny_bind fin)
  | exact wpAny_bind (wpAny_pure (wpAny_bind fin))
  | exact wpAny_bind fin
theorem qh {X:Cx}{pins:List (Addr×Obj)}{σ:St}{H:Hp}{s:Shared}{a:Addr}{y:V}{o:Option V}(I:Inv X pins σ H s)(g:dR H a y o):s.TypeIs (.ref a) "dict":=by
 rcases g with ⟨kvs,k,e,_,_⟩|⟨kvs,k,b,e,_,_,_⟩
 ·obtain⟨_,_,vs,_,dd⟩:=mI I.aZ e
  exact dd.typeIs
 ·obtain⟨_,_,xs,_,dd⟩:=lR I.aZ e
  exact dd.typeIs
def Gn (td ty:TE):TE:=fun σ H Q=>td σ H fun x H1=>ty σ H1 fun y H2=>ck fun a v=>x = .ref a/\dR H2 a y (some v)/\Q v H2
def LB (ty td:TE):TE:=fun σ H Q=>ty σ H fun y H1=>td σ H1 fun x H2=>ck fun a o=>x = .ref a/\dR H2 a y o/\Q (.bl o.isSome) H2
def zU (ty td:TE):TE:=fun σ H Q=>ty σ H fun y H1=>td σ H1 fun x H2=>ck fun a o=>x = .ref a/\dR H2 a y o/\Q (.bl (!o.isSome)) H2
def FE (td ty tv:TE):TS:=fun D σ H=>tv σ H fun v H1=>td σ H1 fun x H2=>ty σ H2 fun y H3=>ck fun a H4=>x = .ref a/\iW H3 a y v H4/\D.nx σ H4
section
variable {X:Cx}{o i e value:Expr}{pos pos' NB:Pos}{td ty tv:TE}
theorem cu (hu:X.A.units+1<cLine)(ho:PE X o td)(hi:PE X i ty)(hs:Ge i):PE X (.Subscript o i pos) (Gn td ty):=by
 intro pins s σ H Q I h
 refine yK PySem.F.slot_dict_getitem.lookup hs (aR (ho s σ H _ I h) fun u s1 hz_=>ae.el hz_ _ fun x H1 I1 rx q1=>aR (hi s1 σ H1 _ I1 q1) fun iv s2 hz_ =>?_)
 refine ae.el hz_ _ ?_
 clear hz_
 rintro y H2 I2 ry ⟨a,v,ex,g,q2⟩
 subst ex
 obtain rfl:u=Value.ref a:=rx
 exact⟨qh I2 g,uW hu I2 g ry fun w' s3 I3 qm=>⟨v,H2,I3,qm,q2⟩⟩
theorem vO (hu:X.A.units+1<cLine)(hi:PE X i ty)(ho:PE X o td):PC X .In i o (LB ty td):=by
 intro pins s σ H Q I h
 refine aR (hi s σ H _ I h) fun iv s1 hz_=>ae.el hz_ _ fun y H1 I1 ry q1=>aR (ho s1 σ H1 _ I1 q1) fun u s2 hz_ =>?_
 refine ae.el hz_ _ ?_
 clear hz_
 rintro x H2 I2 rx ⟨a,ov,ex,g,q2⟩
 subst ex
 obtain rfl:u=Value.ref a:=rx
 exact K8 hu I2 g ry fun s3 I3=>⟨.bl ov.isSome,H2,I3,rfl,q2⟩
theorem cI (hu:X.A.units+1<cLine)(hi:PE X i ty)(ho:PE X o td):PC X .NotIn i o (zU ty td):=by
 intro pins s σ H Q I h
 refine aR (hi s σ H _ I h) fun iv s1 hz_=>ae.el hz_ _ fun y H1 I1 ry q1=>aR (ho s1 σ H1 _ I1 q1) fun u s2 hz_ =>?_
 refine ae.el hz_ _ ?_
 clear hz_
 rintro x H2 I2 rx ⟨a,ov,ex,g,q2⟩
 subst ex
 obtain rfl:u=Value.ref a:=rx
 exact yQ hu I2 g ry fun s3 I3=>⟨.bl (!ov.isSome),H2,I3,rfl,q2⟩
theorem jS (hu:X.A.units+1<cLine)(ho:PE X o td)(hi:PE X i ty)(hv:PE X value tv)(hs:swapsWith value (some (.Subscript o i pos')) pos.line X.env=pure false):
  PS X (.Assign [.Subscript o i pos'] value pos) (FE td ty tv):=by
 intro pins s σ H D I h
 refine wpAny_Assign_Subscript (aR (hv s σ H _ I h) fun r s1 ⟨v,H1,I1,rv,q1⟩=>aR (ho s1 σ H1 _ I1 q1) fun u s2 ⟨x,H2,I2,rx,q2⟩=>aR (hi s2 σ H2 _ I2 q2) fun iv s3 ⟨y,H3,I3,ry,a,H4,ex,g,q3⟩=>?_) hs
 subst ex
 obtain rfl:u=Value.ref a:=rx
 exact ue hu I3 g ry rv fun s4 I4=>⟨σ,H4,I4,q3⟩
end
theorem iD {P:Program}{w:World}{H:Hp}(h:Heap)(hb:sysModules<h.objs.size):bo P w H (h.push { cls := .type "dict",data := .dict #[] }) h.objs.size (.dK []):=
 ⟨Uq _,beq_eq_false_iff_ne.mpr (Ne.symm (J8 hb)),[],.nil,Heap.DictOf.new h⟩
theorem wH {P:Program}{w:World}{H:Hp}(h:Heap)(hb:sysModules<h.objs.size):bo P w H (h.push { cls := .type "dict",data := .dict #[] }) h.objs.size (.dT []):=
 ⟨Uq _,beq_eq_false_iff_ne.mpr (Ne.symm (J8 hb)),[],.nil,_,#[],0,Jv _ rfl,⟨rfl,rfl,rfl⟩,rfl,rfl,List.nodup_nil⟩
def xy:TE:=fun _ H Q=>∀p,H p=none->Q (.ref p) (upd H p (.dK []))
section
variable {X:Cx}{pos:Pos}
theorem vo:PE X (.Dict [] [] pos) xy:=fun pins s σ H Q I h=>
 wpAny_Dict_empty ⟨.ref s.heap.objs.size,_,I.laid (a:=s.heap.objs.size) (o := .dK []) (t':=s.toks) (fun _ _ q=>Je _ q) (Jd _) (iD s.heap I.big),rfl,h _ (I.aZ.fresh (Jd _))⟩
end
def lg:List (TE×TE)->St->Hp->(List (V×V)->Hp->Prop)->Prop
 | [],_,H,Q=>Q [] H
 | (tk,tv)::r,σ,H,Q=>tk σ H fun x H1=>tv σ H1 fun y H2=>lg r σ H2 fun ps H3=>Q ((x,y)::ps) H3
abbrev VV:List (V×V)->List (Value×Value)->Prop:=Paired fun p q=>RelV p.1 q.1/\RelV p.2 q.2
def FH (X:Cx)(pos:Pos)(keys:List (Option Expr))(values:List Expr)(oP:List (TE×TE)):Prop:=
 ∀ ⦃pins:List (Addr×Obj)⦄ (s:Shared) (σ:St) (H:Hp) (Q:List (V×V)->Hp->Prop),Inv X pins σ H s->lg oP σ H Q ->
  wpAny (model X.prog X.w) X.A (evalPairs (pairTrees keys values X.env pos)) (fun vs s'=>ck fun ps H'=>Inv X pins σ H' s'/\VV ps vs/\Q ps H') X.xe s
theorem tm {X:Cx}{pos:Pos}:FH X pos [] [] []:=fun pins s σ H Q I h=>pairTrees_nil_walk ⟨[],H,I,.nil,h⟩
theorem kg {X:Cx}{pos:Pos}{k v:Expr}{ks:List (Option Expr)}{vs:List Expr}{tk tv:TE}{oP:List (TE×TE)}(hk:PE X k tk)(hv:PE X v tv)(hr:FH X pos ks vs oP):
  FH X pos (some k::ks) (v::vs) ((tk,tv)::oP):=fun pins s σ H Q I h=>
 pairTrees_cons_walk (aR (hk s σ H _ I h) fun u s1 hz_=>ae.el hz_ _ fun x H1 I1 rx q1=>aR (hv s1 σ H1 _ I1 q1) fun w2 s2 ⟨y,H2,I2,ry,q2⟩=>
  aR (hr s2 σ H2 _ I2 q2) fun ws s3 hz_=>ae.el hz_ _ fun ps H3 I3 rel q3=>⟨(x,y)::ps,H3,I3,.cons ⟨rx,ry⟩ rel,q3⟩)
noncomputable def cP (kvs more:List (Key×V)):List (Key×V):=more.foldl (fun acc kv=>putK acc kv.1 kv.2) kvs
theorem KV.merge:∀{more:List (Key×V)} {rs:List (Key×Value)} {kvs:List (Key×V)} {vs:List (Key×Value)},KV more rs->KV kvs vs->KV (cP kvs more) (merged vs rs):=by
 intro more rs kvs vs r
 unfold KV at r
 induction r generalizing kvs vs with
 | nil=>intro q;exact q
 | @cons p q ps qs h t ih=>
  intro r0
  have e:KV (putK kvs p.1 p.2) (stored vs q.1 q.2):=by
   have:=r0.put p.1 h.2
   rw[<-h.1];exact this
  exact ih e
theorem dq:∀(more kvs:List (Key×V)),(cP kvs more).length<=kvs.length+more.length
 | [],kvs=>by show kvs.length<=kvs.length+0;omega
 | p::r,kvs=>by
  have h1:=dq r (putK kvs p.1 p.2)
  have h2:=eE kvs p.1 p.2
  show(cP (putK kvs p.1 p.2) r).length<=_
  rw[Jx];omega
theorem j7 {P:Program}{w:World}:∀{kvs:List (Key×V)} {ws:List (Value×Value)},VV (kvs.map fun kv=>(kV kv.1,kv.2)) ws->∃rs,Carries (bj P w) ws rs/\KV kvs rs
 | [],_,r=>by rw[List.map_nil] at r;cases r;exact⟨[],True.intro,.nil⟩
 | p::kvs,_,r=>by
  rw[Uc] at r
  cases r with
  | @cons a b as bs h t=>
   obtain⟨rs,c,q⟩:=j7 (P:=P) (w:=w) t
   obtain⟨b1,b2⟩:=b
   exact⟨(p.1,b2)::rs,⟨jD h.1,rfl,c⟩,.cons ⟨rfl,h.2⟩ q⟩
def xG (oP:List (TE×TE)):TE:=fun σ H Q=>∀p,H p=none->lg oP σ (upd H p (.dK [])) fun ps H2=>H2 p=some (.dK [])/\∃kvs:List (Key×V),ps=kvs.map (fun kv=>(kV kv.1,kv.2))/\kvs.length<=15/\Q (.ref p) (upd H2 p (.dK (cP [] kvs)))
theorem ze {X:Cx}{pos:Pos}{keys:List (Option Expr)}{values:List Expr}{oP:List (TE×TE)}(h:FH X pos keys values oP)(dM:keys.all (·.isSome)=true)(hl:keys.length=values.length)(h0:keys≠[])
  (K7:keys.length<=15):PE X (.Dict keys values pos) (xG oP):=by
 intro pins s σ H Q I q
 have hn:=I.aZ.fresh (Jd s.heap.objs.size)
 have I1:=I.laid (a:=s.heap.objs.size) (o := .dK []) (h':=s.heap.push { cls := .type "dict",data := .dict #[] }) (t':=s.toks) (fun _ _ q=>Je _ q) (Jd _) (iD s.heap I.big)
 refine wpAny_Dict_walk (knd:=bj X.prog X.w) dM hl h0 K7 (aR (h _ σ _ _ I1 (q _ hn)) fun ws s2 hz_=>ae.el hz_ _ fun ps H2 I2 rel e kvs ep lk q2 =>?_)
 subst ep
 obtain⟨rs,c,rk⟩:=j7 (P:=X.prog) (w:=X.w) rel
 obtain⟨z,hd,vs0,r0,dd⟩:=xp I2.aZ e
 cases r0
 refine⟨rs,c,dd,fun h' dd' hs=>⟨.ref s.heap.objs.size,_,?_,rfl,q2⟩⟩
 have hz:(cP [] kvs).length<=sizeLine:=by
  have h1:=dq kvs []
  rw[Yx] at h1
  rw[sizeLine_eq];omega
 have he:∃q,h'.get? s.heap.objs.size=some q:=let ⟨q,_,_,hq,_⟩:=dd'; ⟨q,hq⟩
 exact gP I2 (by rw[e];exact True.intro) hs he (nN hz hd (rk.merge .nil) dd')
end L2
namespace HT
open PySem PyProof.Rows
section
variable {prog:Program}{w:World}{A:Around}{E:Value->Shared->Prop}{s:Shared}
noncomputable def pL (n d:Nat):Option Int->Nat
 | none=>d
 | some v=>if v<0 then (v+(n:Int)).toNat else min v.toNat n
theorem pY (n d:Nat):pL n d none=d:=rfl
theorem sr (n d k:Nat):pL n d (some (k:Int))=min k n:=by
 show(if (k:Int)<0 then ((k:Int)+(n:Int)).toNat else min (k:Int).toNat n)=min k n
 rw[if_neg (by omega),Uz]
end
end HT
namespace L2
open PySem PySem.Spec PyProof.Rows
abbrev TO:=St->Hp->(Option Int->Hp->Prop)->Prop
def PO (X:Cx)(e:Option Expr)(t:TO):Prop:=
 ∀ ⦃pins:List (Addr×Obj)⦄ (s:Shared) (σ:St) (H:Hp) (Q:Option Int->Hp->Prop),Inv X pins σ H s->t σ H Q ->
  wpAny (model X.prog X.w) X.A (evalPart e X.env) (fun u s'=>ck fun o H'=>Inv X pins σ H' s'/\IsPart u o/\Q o H') X.xe s
noncomputable def fD:TO:=fun _ H Q=>Q none H
noncomputable def AL (t:TE):TO:=fun σ H Q=>t σ H fun x H1=>∃i,x = .int i/\Q (some i) H1
section
variable {X:Cx}{e:Expr}{te:TE}{lo hi:Option Expr}{tl th:TO}{pos p2:Pos}
theorem cU:PO X none fD:=by
 intro pins s σ H Q I h
 rw[evalPart_none]
 exact wpAny_pure ⟨none,H,I,.none,h⟩
theorem dc (h:PE X e te):PO X (some e) (AL te):=by
 intro pins s σ H Q I hw
 rw[evalPart_some]
 refine aR (h s σ H _ I hw) fun u s1 hz_ =>?_
 refine ae.el hz_ _ ?_
 clear hz_
 rintro x H1 I1 r1 q1
 obtain⟨i,rfl,q⟩:=q1
 obtain⟨t,rfl⟩:=r1
 exact⟨some i,H1,I1,.int i t,q⟩
def xX (X:Cx)(r:V->Option Int->Option Int->Hp->VK->Prop):Prop:=
 ∀ ⦃pins:List (Addr×Obj)⦄ (s:Shared) (σ:St) (H:Hp) (x:V) (v vl vu:Value) (lo hi:Option Int) (sl:Addr) (Q:VK),Inv X pins σ H s->RelV x v->s.heap.IsSliceOf sl vl vu .none->IsPart vl lo->IsPart vu hi->r x lo hi H Q ->
  ck fun T id=>typeLookup (.type T) "__getitem__" = pure (some (.builtin id))/\s.TypeIs v T/\wpAny (model X.prog X.w) X.A (getItem v (.ref sl)) (EP X pins σ Q) X.xe s
theorem xX.or {r r':V->Option Int->Option Int->Hp->VK->Prop}(h:xX X r)(h':xX X r'):xX X (fun x lo hi H Q=>r x lo hi H Q∨r' x lo hi H Q):=by
 intro pins s σ H x v vl vu lo hi sl Q I rx hs pl pu q
 rcases q with q|q
 ·exact h s σ H x v vl vu lo hi sl Q I rx hs pl pu q
 ·exact h' s σ H x v vl vu lo hi sl Q I rx hs pl pu q
def HG (r:V->Option Int->Option Int->Hp->VK->Prop)(te:TE)(tl th:TO):TE:=fun σ H Q=>te σ H fun x H1=>tl σ H1 fun l H2=>th σ H2 fun u H3=>r x l u H3 Q
theorem cw {r:V->Option Int->Option Int->Hp->VK->Prop}(hr:xX X r)(he:PE X e te)(hl:PO X lo tl)(hu:PO X hi th):PE X (.Subscript e (.Slice lo hi none p2) pos) (HG r te tl th):=by
 intro pins s σ H Q I h
 refine Subscript_ (aR (he s σ H _ I h) fun v s1 hz_ =>?_)
 refine ae.el hz_ _ ?_
 clear hz_
 rintro x H1 I1 r1 q1
 refine wpAny_Slice (aR (hl s1 σ H1 _ I1 q1) fun vl s2 hz_=>ae.el hz_ _ fun l H2 I2 pl q2=>aR (hu s2 σ H2 _ I2 q2) fun vu s3 hz_ =>?_)
 refine ae.el hz_ _ ?_
 clear hz_
 rintro u H3 I3 pu q3
 rw[evalPart_none]
 refine wpAny_pure ?_
 have I4:Inv X pins σ H3 { s3 with heap:=s3.heap.push { cls := .type "slice",data := .fields #[vl,vu,.none] } }:=I3.kept (t':=s3.toks) fun b ob q=>Je _ q
 obtain⟨T,id,hT,ht,hg⟩:=hr { s3 with heap:=s3.heap.push { cls := .type "slice",data := .fields #[vl,vu,.none] } } σ H3 x v vl vu l u s3.heap.objs.size Q I4 r1 (Heap.IsSliceOf.new ..) pl pu q3
 show wpAny (model X.prog X.w) X.A (subscriptTail e (.Slice lo hi none p2) v (.ref s3.heap.objs.size)) (EP X pins σ Q) X.xe { s3 with heap:=s3.heap.push { cls := .type "slice",data := .fields #[vl,vu,.none] } }
 exact tail_any (ops:=[.ref s3.heap.objs.size,v]) ht hT hg (by with_unfolding_all rfl)
noncomputable def lz (xs:List V)(lo hi:Option Int):List V:=(xs.drop (HT.pL xs.length 0 lo)).take (HT.pL xs.length xs.length hi-HT.pL xs.length 0 lo)
theorem qc (xs:List V)(lo hi:Option Int):(lz xs lo hi).length<=xs.length:=by
 unfold lz
 rw[Jr,J9]
 omega
end
noncomputable def wN (n:Nat)(i:Int):Option Nat:=if 0<=i then (if i<n then some i.toNat else none) else if -(n:Int)<=i then some (i+n).toNat else none
noncomputable def nY {α:Type}(xs:List α)(i:Int):Option α:=(wN xs.length i).bind fun j=>xs[j]?
theorem nX {n:Nat}{i:Int}{j:Nat}(h:wN n i=some j):seqIndex? i n=some j/\j<n /\ -(n:Int)<=i/\i<n:=by
 unfold wN at h
 by_cases h0:0<=i
 ·rw[if_pos h0] at h
  by_cases h1:i<n
  ·rw[if_pos h1] at h
   have e:i.toNat=j:=Option.some.inj h
   exact⟨by rw[seqIndex_of h0 h1,e],by omega,by omega,h1⟩
  ·rw[if_neg h1] at h;cases h
 ·rw[if_neg h0] at h
  by_cases h1: -(n:Int)<=i
  ·rw[if_pos h1] at h
   have e:(i+n).toNat=j:=Option.some.inj h
   exact⟨by rw[seqIndex_neg (by omega) h1,e],by omega,h1,by omega⟩
  ·rw[if_neg h1] at h;cases h
theorem jY {α:Type}{xs:List α}{i:Int}{v: α}(h:nY xs i=some v):∃j,seqIndex? i xs.length=some j/\xs[j]? = some v/\j<xs.length /\ -(xs.length:Int)<=i/\i<xs.length:=by
 unfold nY at h
 cases e:wN xs.length i with
 | none=>rw[e] at h;cases h
 | some j=>
  rw[e] at h
  obtain⟨h1,h2,h3,h4⟩:=nX e
  exact⟨j,h1,h,h2,h3,h4⟩
theorem nB {α:Type}{xs:List α}{j:Nat}{v: α}(h:xs[j]? = some v):nY xs (j:Int)=some v:=by
 have hj:j<xs.length:=(Ju.mp h).1
 have e:wN xs.length (j:Int)=some j:=by
  unfold wN
  rw[if_pos (by omega),if_pos (by omega)];simp
 unfold nY;rw[e];exact h
def zq (b:Expr):Prop:=∀o i,subscripted b false o i=operate [o,i] (getItem o i)
def yb (X:Cx)(r:R2):Prop:=
 ∀ ⦃value slice:Expr⦄ ⦃pins:List (Addr×Obj)⦄ (s:Shared) (σ:St) (H:Hp) (x y:V) (v u:Value) (Q:VK),Inv X pins σ H s->RelV x v->RelV y u->r x y H Q ->
  subscripted slice false v u=operate [v,u] (getItem v u)->wpAny (model X.prog X.w) X.A (subscriptTail value slice v u) (EP X pins σ Q) X.xe s
def Bm (X:Cx)(id:String)(r:V->List V->Hp->VK->Prop):Prop:=
 ∀ ⦃pins:List (Addr×Obj)⦄ (s:Shared) (σ:St) (H:Hp) (x:V) (xs:List V) (v:Value) (us:List Value) (Q:VK),Inv X pins σ H s->RelV x v->Vals xs us->r x xs H Q ->
  wpAny (model X.prog X.w) X.A (call (.builtin id) (v::us)) (EP X pins σ Q) X.xe s
section
variable {X:Cx}{a b:Expr}{ta tb:TE}{pos:Pos}
theorem yb.or {r r':R2}(h:yb X r)(h':yb X r'):yb X (fun x y H Q=>r x y H Q∨r' x y H Q):=by
 intro value slice pins s σ H x y v u Q I rx ry q hs
 rcases q with q|q
 ·exact h s σ H x y v u Q I rx ry q hs
 ·exact h' s σ H x y v u Q I rx ry q hs
theorem bK {r:R2}(hr:yb X r)(ha:PE X a ta)(hb:PE X b tb)(hs:zq b):PE X (.Subscript a b pos) (BQ r ta tb):=by
 intro pins s σ H Q I h
 exact Subscript_ (BV ha hb I h fun v u s2 x y H2 I2 rx ry q=>hr s2 σ H2 x y v u Q I2 rx ry q (hs _ _))
def D8 (K:Jb):R2:=fun x y H Q=>om fun p xs i v=>x = .ref p/\y = .int i/\aE K H p xs/\nY xs i=some v/\Q v H
def Ec (K:Jb):R2:=fun x y H Q=>om fun p xs i v=>x = .ref p/\y = .int i/\d9 K H p xs/\nY xs i=some v/\Q v H
def DS:R2:=fun x y H Q=>fR fun z i c=>x = .str z/\y = .int i/\z.length<=sizeLine/\nY z.cps.toList i=some c/\Q (.str ⟨#[c]⟩) H
theorem yh:yb X (D8 X.K):=by
 intro value slice pins s σ H x y v u Q I rx ry h hs
 obtain⟨p,xs,i,z,rfl,rfl,hq,he,q⟩:=h
 cases rx
 obtain⟨t,rfl⟩:=ry
 obtain⟨av,r,pl,hz⟩:=I.list hq
 obtain⟨j,h1,h2,h3,h4,h5⟩:=jY he
 obtain⟨w,ew,qm⟩:=r.get h2
 have hl:=r.length
 have hn:=iy
 have fin:EP X pins σ Q w s:=⟨z,H,I,qm,q⟩
 by_cases h0:0<=i
 ·have hj:i.toNat=j:=by
   rw[seqIndex_of h0 h5] at h1
   exact Option.some.inj h1
  exact item_listR pl.isList h0 (by omega) (by rw[hj];simpa using ew) fin hs
 ·have hj:(i+(av.toArray.size:Int)).toNat=j:=by
   rw[seqIndex_neg (by omega) h4] at h1
   rw[Jl,<-hl]
   exact Option.some.inj h1
  exact subscriptTail_builtinR (x:=w) pl.isList.typeIs slot_list_getitem.lookup
   (wpAny_getItem_list_neg (Q:=fun r s'=>r=w/\EP X pins σ Q r s') pl.isList (by omega) (by rw[Jl]<;>omega) (by omega) (by rw[hj];simpa using ew) ⟨rfl,fin⟩) hs
theorem CZ:yb X (Ec X.K):=by
 intro value slice pins s σ H x y v u Q I rx ry h hs
 obtain⟨p,xs,i,z,rfl,rfl,hq,he,q⟩:=h
 cases rx
 obtain⟨t,rfl⟩:=ry
 obtain⟨av,r,pl,hz⟩:=I.tuple hq
 obtain⟨j,h1,h2,h3,h4,h5⟩:=jY he
 obtain⟨w,ew,qm⟩:=r.get h2
 have hl:=r.length
 have hn:=iy
 have fin:EP X pins σ Q w s:=⟨z,H,I,qm,q⟩
 exact subscriptTail_builtinR (x:=w) pl.typeIs slot_tuple_getitem.lookup
  (getItem_tuple (j:=j) (Q:=fun r s'=>r=w/\EP X pins σ Q r s') pl (by omega) (by omega) (by rw[Jl,<-hl];exact h1) (by simpa using ew) ⟨rfl,fin⟩) hs
theorem CQ:yb X DS:=by
 intro value slice pins s σ H x y v u Q I rx ry h hs
 obtain⟨z,i,c,rfl,rfl,hz,he,q⟩:=h
 obtain⟨t,rfl⟩:=rx
 obtain⟨t',rfl⟩:=ry
 obtain⟨j,h1,h2,h3,h4,h5⟩:=jY he
 have hl:z.cps.toList.length=z.length:=by simp[Str.length]
 rw[hl] at h1 h4 h5
 have hn:=iy
 exact tail_any (typeIs_str s z t) slot_str_getitem.lookup (getItem_str (c:=c) (by
  have e1:decide (i < -(2^63:Int))=false:=decide_eq_false (by omega)
  have e2:decide (i>=2^63)=false:=decide_eq_false (by omega)
  rw[e1,e2,Bool.or_false]) (by rw[h1];simpa using h2) ⟨.str ⟨#[c]⟩,H,I.tok _,⟨_,rfl⟩,q⟩) hs
def E6 (K:Jb):R2:=fun x y H Q=>D8 K x y H Q∨Ec K x y H Q∨DS x y H Q
theorem Bi:yb X (E6 X.K):=yh.or (CZ.or CQ)
theorem rF (av:List Value)(n j:Nat)(u:Value):Obj.mapSeq (·.setIfInBounds j u) { cls := .type "list",data := .seq av.toArray n } = { cls := .type "list",data := .seq (av.set j u).toArray n }:=by
 simp[Obj.mapSeq]
theorem Inv.lst {pins:List (Addr×Obj)}{σ:St}{H:Hp}{s:Shared}{p:Addr}{xs:List V}(I:Inv X pins σ H s)(h:H p=some (.lst xs)):
  ∃(av:List Value) (n:Nat),Vals xs av/\s.heap.get? p=some { cls := .type "list",data := .seq av.toArray n } /\ xs.length<=sizeLine:=by
 obtain⟨z,av,n,r,e⟩:=I.aZ p _ h
 exact⟨av,n,r,e,z⟩
theorem Inv.Cf {pins:List (Addr×Obj)}{σ:St}{H:Hp}{s:Shared}{p:Addr}{xs ys:List V}{av its':List Value}{n n':Nat}{f:Obj->Obj}(I:Inv X pins σ H s)(h:H p=some (.lst xs))
  (ho:s.heap.get? p=some { cls := .type "list",data := .seq av.toArray n }) (hf:f { cls := .type "list",data := .seq av.toArray n } = { cls := .type "list",data := .seq its'.toArray n' }) (r:Vals ys its') (hz:ys.length<=sizeLine) (t:Nat) :
  Inv X pins σ (upd H p (.lst ys)) { s with heap:=s.heap.update p f,toks:=t }:=by
 have e:(s.heap.update p f).get? p=some { cls := .type "list",data := .seq its'.toArray n' }:=by
  rw[Uu f ho (by rw[hf]<;>rfl),hf]
 refine I.write (x:=p) (e:=p) (by rw[h];trivial) (.inl rfl) (fun b u hb q=>(Us _ _ (Ne.symm hb)).trans q) ⟨_,e⟩ ?_
 exact⟨hz,its',n',r,e⟩
def ET:V->V->V->Hp->(Hp->Prop)->Prop:=fun o i v H Q=>om fun p xs k j=>o = .ref p/\i = .int k/\H p=some (.lst xs)/\wN xs.length k=some j/\Q (upd H p (.lst (xs.set j v)))
theorem set_list:Gx X ET:=by
 intro pins s σ H o i v ov iv u Q I ro ri rv h
 obtain⟨p,xs,k,j,rfl,rfl,hp,hj,q⟩:=h
 cases ro
 obtain⟨t,rfl⟩:=ri
 obtain⟨av,n,r,ho,hz⟩:=I.lst hp
 obtain⟨h1,h2,h3,h4⟩:=nX hj
 have hl:=r.length
 have hn:=iy
 have I':Inv X pins σ (upd H p (.lst (xs.set j v))) { s with heap:=s.heap.update p (Obj.mapSeq (·.setIfInBounds j u)) }:=
  I.Cf hp ho (rF av n j u) (r.set rv j) (by rw[List.length_set];exact hz) s.toks
 by_cases h0:0<=k
 ·have hk:k.toNat=j:=by
   rw[seqIndex_of h0 h4] at h1
   exact Option.some.inj h1
  exact PySem.W.ki_setAt ho h0 (by omega) (by rw[Jl,<-hl];exact h4) (by rw[hk];exact⟨_,I',q⟩)
 ·have hk:(k+(av.toArray.size:Int)).toNat=j:=by
   rw[seqIndex_neg (by omega) h3] at h1
   rw[Jl,<-hl]
   exact Option.some.inj h1
  exact PySem.W.ki_setBack ho (by omega) (by rw[Jl,<-hl];exact h3) (by omega) (by rw[hk];exact⟨_,I',q⟩)
theorem ng (lo hi:Option Int)(n:Nat):(sliceBounds lo hi none n).1=((HT.pL n 0 lo:Nat):Int)/\(sliceBounds lo hi none n).2.1=((HT.pL n n hi:Nat):Int)/\(sliceBounds lo hi none n).2.2=1:=by
 refine⟨?_,?_,rfl⟩
 ·cases lo with
  | none=>simp[sliceBounds,HT.pL]
  | some i=>
   simp only[sliceBounds,HT.pL,Option.getD_none,show(1:Int)>0 by decide,if_true]
   by_cases h:i<0
   ·simp only[h,if_true]<;>omega
   ·simp only[h,if_false]<;>omega
 ·cases hi with
  | none=>simp[sliceBounds,HT.pL]
  | some i=>
   simp only[sliceBounds,HT.pL,Option.getD_none,show(1:Int)>0 by decide,if_true]
   by_cases h:i<0
   ·simp only[h,if_true]<;>omega
   ·simp only[h,if_false]<;>omega
theorem lC (av:List Value)(lo hi:Option Int):slicePick av.toArray lo hi none=((av.drop (HT.pL av.length 0 lo)).take (HT.pL av.length av.length hi-HT.pL av.length 0 lo)).toArray:=by
 obtain⟨h1,h2,h3⟩:=ng lo hi av.toArray.size
 unfold slicePick
 rw[h1,h2,h3]
 simp only[sliceRange_one,pick_run,Jl]<;>rfl
def Cs (K:Jb):V->Option Int->Option Int->Hp->VK->Prop:=fun x lo hi H Q=>ck fun a xs=>x = .ref a/\aE K H a xs/\∀p,H p=none->Q (.ref p) (upd H p (.lst (lz xs lo hi)))
theorem yM:xX X (Cs X.K):=by
 intro pins s σ H x v vl vu lo hi sl Q I rx hs pl pu h
 obtain⟨a,xs,rfl,hx,q⟩:=h
 cases rx
 obtain⟨av,r,ht,hz⟩:=I.list hx
 have hlen:=r.length
 refine⟨"list",_,slot_list_getitem.lookup,ht.isList.typeIs,?_⟩
 refine wpAny_getItem_list_slice ht.isList hs pl pu .none (by simp) ?_ (by rw[Jl]<;>omega)
 rw[lC,<-hlen]
 refine⟨.ref s.heap.objs.size,_,I.laid (t':=s.toks) (o := .lst (lz xs lo hi)) (fun b ob q=>Je _ q) (Jd _) ?_,rfl,q _ (I.aZ.fresh (Jd _))⟩
 exact⟨Js (qc xs lo hi) hz,_,0,(r.drop (HT.pL xs.length 0 lo)).take (HT.pL xs.length xs.length hi-HT.pL xs.length 0 lo),Jv _ rfl⟩
noncomputable def iU:V->Bool
 | .non=>true
 | .bl _=>true
 | .int _=>true
 | .str _=>true
 | _=>false
noncomputable def AI:V->V->Bool
 | .non,.non=>true
 | .bl a,.bl b=>a==b
 | .bl a,.int b=>(if a then 1 else 0)==b
 | .int a,.bl b=>a==(if b then 1 else 0)
 | .int a,.int b=>a==b
 | .str a,.str b=>a==b
 | _,_=>false
theorem BX {A:Around}{s:Shared}{y x:V}{u v:Value}(ry:RelV y u)(rx:RelV x v)(fy:iU y=true)(fx:iU x=true):SeqAt.EqAt A s u v (AI y x):=by
 cases y with
 | non=>
  cases ry
  cases x with
  | non=>cases rx;exact SeqAt.EqAt.same _
  | bl b=>cases rx;exact SeqAt.EqAt.none_bool b
  | int b=>obtain⟨t,rfl⟩:=rx;exact SeqAt.EqAt.none_int b t
  | str b=>obtain⟨t,rfl⟩:=rx;exact SeqAt.EqAt.none_str b t
  | _=>exact absurd (show false=true from fx) Jm
 | bl a=>
  cases ry
  cases x with
  | non=>cases rx;exact SeqAt.EqAt.bool_none a
  | bl b=>cases rx;exact SeqAt.EqAt.bool_bool a b
  | int b=>obtain⟨t,rfl⟩:=rx;exact SeqAt.EqAt.bool_int a b t
  | str b=>obtain⟨t,rfl⟩:=rx;exact SeqAt.EqAt.bool_str a b t
  | _=>exact absurd (show false=true from fx) Jm
 | int a=>
  obtain⟨t',rfl⟩:=ry
  cases x with
  | non=>cases rx;exact SeqAt.EqAt.int_none a t'
  | bl b=>cases rx;exact SeqAt.EqAt.int_bool a t' b
  | int b=>obtain⟨t,rfl⟩:=rx;exact SeqAt.EqAt.int_int a t' b t
  | str b=>obtain⟨t,rfl⟩:=rx;exact SeqAt.EqAt.int_str a t' b t
  | _=>exact absurd (show false=true from fx) Jm
 | str a=>
  obtain⟨t',rfl⟩:=ry
  cases x with
  | non=>cases rx;exact SeqAt.EqAt.str_none a t'
  | bl b=>cases rx;exact SeqAt.EqAt.str_bool a t' b
  | int b=>obtain⟨t,rfl⟩:=rx;exact SeqAt.EqAt.str_int a t' b t
  | str b=>obtain⟨t,rfl⟩:=rx;exact SeqAt.EqAt.str_str a t' b t
  | _=>exact absurd (show false=true from fx) Jm
 | _=>exact absurd (show false=true from fy) Jm
noncomputable def qY (x:V)(u:Value):Bool:=match u with
 | .none=>AI .non x
 | .bool b=>AI (.bl b) x
 | .int i _=>AI (.int i) x
 | .str z _=>AI (.str z) x
 | _=>false
theorem vt {x y:V}{u:Value}(r:RelV y u)(f:iU y=true):qY x u=AI y x:=by
 cases y with
 | non=>cases r;rfl
 | bl b=>cases r;rfl
 | int i=>obtain⟨t,rfl⟩:=r;rfl
 | str z=>obtain⟨t,rfl⟩:=r;rfl
 | _=>exact absurd (show false=true from f) Jm
theorem iY {x:V}:∀{xs:List V} {us:List Value},Vals xs us->xs.all iU=true->us.any (qY x)=xs.any fun y=>AI y x
 | _,_,.nil,_=>rfl
 | y::xs,u::us,.cons r t,f=>by
  rw[List.all_cons,Ys] at f
  rw[List.any_cons,List.any_cons,vt r f.1,iY t f.2]
theorem gN {A:Around}{s:Shared}{x:V}{v:Value}(rx:RelV x v)(fx:iU x=true):∀{xs:List V} {us:List Value},Vals xs us->xs.all iU=true->∀u∈us,SeqAt.EqAt A s u v (qY x u)
 | _,_,.nil,_=>fun u hu=>by cases hu
 | y::xs,u::us,.cons r t,f=>fun u' hu=>by
  rw[List.all_cons,Ys] at f
  rcases Um.mp hu with rfl|hu
  ·rw[vt r f.1];exact BX r rx f.1 fx
  ·exact gN rx fx t f.2 u' hu
noncomputable def Dl (x:V)(xs:List V):Bool:=xs.any fun y=>AI y x
def GO (K:Jb)(neg:Bool):R2:=fun x y H Q=>ck fun p xs=>y = .ref p/\(aE K H p xs∨d9 K H p xs)/\iU x=true/\xs.all iU=true/\Q (.bl (if neg then !Dl x xs else Dl x xs)) H
theorem uf:dB X (compareOp .In) (GO X.K false):=by
 intro pins s σ H x y v u Q I rx ry h
 obtain⟨p,xs,rfl,hq,fx,fs,q⟩:=h
 cases ry
 rcases hq with hq|hq
 ·obtain⟨av,r,pl,hz⟩:=I.list hq
  refine SeqAt.in_listAt (qY x) pl.isList (fun w hw=>gN rx fx r fs w (by simpa using hw)) ⟨.bl _,H,I,rfl,?_⟩
  rw[show av.toArray.any (qY x)=av.any (qY x) by simp,iY r fs]
  exact q
 ·obtain⟨av,r,pl,hz⟩:=I.tuple hq
  refine SeqAt.in_tupleAt (qY x) pl (fun w hw=>gN rx fx r fs w (by simpa using hw)) ⟨.bl _,H,I,rfl,?_⟩
  rw[show av.toArray.any (qY x)=av.any (qY x) by simp,iY r fs]
  exact q
theorem nu:dB X (compareOp .NotIn) (GO X.K true):=by
 intro pins s σ H x y v u Q I rx ry h
 obtain⟨p,xs,rfl,hq,fx,fs,q⟩:=h
 cases ry
 rcases hq with hq|hq
 ·obtain⟨av,r,pl,hz⟩:=I.list hq
  refine SeqAt.notIn_listAt (qY x) pl.isList (fun w hw=>gN rx fx r fs w (by simpa using hw)) ⟨.bl _,H,I,rfl,?_⟩
  rw[show av.toArray.any (qY x)=av.any (qY x) by simp,iY r fs]
  exact q
 ·obtain⟨av,r,pl,hz⟩:=I.tuple hq
  refine SeqAt.notIn_tupleAt (qY x) pl (fun w hw=>gN rx fx r fs w (by simpa using hw)) ⟨.bl _,H,I,rfl,?_⟩
  rw[show av.toArray.any (qY x)=av.any (qY x) by simp,iY r fs]
  exact q
theorem cn.or {f:Value}{r r':List V->Hp->VK->Prop}(h:cn X f r)(h':cn X f r'):cn X f (fun xs H Q=>r xs H Q∨r' xs H Q):=by
 intro pins s σ H xs us Q I rs q
 rcases q with q|q
 ·exact h s σ H xs us Q I rs q
 ·exact h' s σ H xs us Q I rs q
theorem m9:cn X (.type "list") (fun xs H Q=>∃p ys,xs=[.ref p]/\(aE X.K H p ys∨d9 X.K H p ys)/\∀l,H l=none->Q (.ref l) (upd H l (.lst ys))):=by
 intro pins s σ H xs us Q I r h
 obtain⟨p,ys,rfl,hq,q⟩:=h
 obtain⟨u,rfl,rx⟩:=vals1 r
 cases rx
 have fin:∀(av:List Value),Vals ys av->ys.length<=sizeLine->∀(h':Heap) (c':Nat),(∀b o',s.heap.get? b=some o'->h'.get? b=some o') ->
   h'.get? s.heap.objs.size=some { cls := .type "list",dict:=none,data := .seq av.toArray c',slots := #[] } -> EP X pins σ Q (.ref s.heap.objs.size) { s with heap:=h' }:=fun av r' hz h' c' kp e=>
  ⟨.ref s.heap.objs.size,_,I.laid (t':=s.toks) kp (Jd _) (show bo X.prog X.w _ h' _ (.lst ys) from⟨hz,av,c',r',e⟩),rfl,q _ (I.aZ.fresh (Jd _))⟩
 rcases hq with hq|hq
 ·obtain⟨av,r',pl,hz⟩:=I.list hq
  have hlen:=r'.length
  obtain⟨o,ho,hc,n,hd⟩:=pl.isList
  exact call_list_seq p (.inl rfl) ho hc hd (fun h' c' kp e=>fin av r' hz h' c' kp e) (by simp only[Jl]<;>omega)
 ·obtain⟨av,r',pl,hz⟩:=I.tuple hq
  have hlen:=r'.length
  obtain⟨o,ho,hc,n,hd⟩:=pl
  exact call_list_seq p (.inr rfl) ho hc hd (fun h' c' kp e=>fin av r' hz h' c' kp e) (by simp only[Jl]<;>omega)
def Iv (K:Jb)(T:String)(x:V)(H:Hp):Prop:=match x with
 | .str _=>T = "str"
 | .int _=>T = "int"
 | .ref p=>(T = "list" /\ ∃xs,aE K H p xs)∨(T = "tuple" /\ ∃o,K.lookup p=some o/\o.cls = .type "tuple" /\ o.dict=none) ∨
   (T = "dict" /\ ((∃kvs,H p=some (.dK kvs))∨∃kvs,H p=some (.dT kvs)))∨(T = "set" /\ ck fun S n=>H p=some (.set S n))
 | _=>False
theorem wL {pins:List (Addr×Obj)}{σ:St}{H:Hp}{s:Shared}{T:String}{x:V}{v:Value}(I:Inv X pins σ H s)(r:RelV x v)(ty:Iv X.K T x H):
  s.TypeIs v T/\∀a,v = .ref a->∃ob,s.heap.get? a=some ob/\ob.dict=none:=by
 cases x with
 | str z=>
  obtain⟨t,rfl⟩:=r
  cases (show T = "str" from ty)
  exact⟨typeIs_str s z t,fun _ e=>nomatch e⟩
 | int i=>
  obtain⟨t,rfl⟩:=r
  cases (show T = "int" from ty)
  exact⟨typeIs_int s i t,fun _ e=>nomatch e⟩
 | ref p=>
  cases r
  rcases ty with ⟨rfl,xs,hq⟩|⟨rfl,o,hk,hc,hd⟩|⟨rfl,hk⟩|⟨rfl,S,n,hk⟩
  ·obtain⟨av,_,pl,_⟩:=I.list hq
   refine⟨pl.isList.typeIs,fun a e =>?_⟩
   cases e
   obtain⟨o,n,e,c,hd,_⟩:=pl
   exact⟨o,e,hd⟩
  ·refine⟨⟨o,I.lV p o hk,hc⟩,fun a e =>?_⟩
   cases e
   exact⟨o,I.lV _ o hk,hd⟩
  ·have z:∃o,s.heap.get? p=some o/\o.ExactDict:=by
    rcases hk with ⟨kvs,hk⟩|⟨kvs,hk⟩
    ·obtain⟨_,_,_,_,o,_,_,e,ex,_⟩:=I.aZ p _ hk
     exact⟨o,e,ex⟩
    ·obtain⟨_,_,_,_,o,_,_,e,ex,_⟩:=I.aZ p _ hk
     exact⟨o,e,ex⟩
   obtain⟨o,e,ex⟩:=z
   refine⟨⟨o,e,ex.1⟩,fun a e2 =>?_⟩
   cases e2
   exact⟨o,e,ex.2.1⟩
  ·obtain⟨o,_,_,_,e,ex,_⟩:=I.aZ p _ hk
   refine⟨⟨o,e,ex.1⟩,fun a e2 =>?_⟩
   cases e2
   exact⟨o,e,ex.2.1⟩
 | _=>exact False.elim ty
def EF (K:Jb)(T:String)(r:V->List V->Hp->VK->Prop)(to:TE):TE:=fun σ H Q=>to σ H fun x H1=>Iv K T x H1/\r x [] H1 Q
def ME (K:Jb)(T:String)(r:V->List V->Hp->VK->Prop)(to:TE)(t:TA):TE:=fun σ H Q=>to σ H fun x H1=>Iv K T x H1/\t σ H1 fun xs H2=>r x xs H2 Q
variable {o e:Expr}{es:List Expr}{to:TE}{t:TA}{name:Str}{apos fT:Pos}{T id:String}{r:V->List V->Hp->VK->Prop}
theorem Cb (pa:PlainAttrs T)(slot:Slot T name id)(Bb:typeOf (.builtin id)=pure (.type "method_descriptor"))(hm:Bm X id r)(ho:PE X o to)
  (kq:attributeBase o name X.env (eval o X.env)=eval o X.env:=by rfl) (ke:(apos.endLine==fT.line)=true:=by rfl):PE X (.Call (.Attribute o name apos) [] [] fT) (EF X.K T r to):=by
 intro pins s σ H Q I h
 refine wpAny_Call_method0_late kq ke (aR (ho s σ H _ I h) fun v s1 hz_ =>?_)
 refine ae.el hz_ _ ?_
 clear hz_
 rintro x H1 I1 r1 ⟨ty,q1⟩
 obtain⟨h1,h2⟩:=wL I1 r1 ty
 exact⟨T,id,pa,slot,Bb,h1,h2,Calls.callWith_builtin rfl (PySem.evalArgs_none (hm s1 σ H1 x [] v [] Q I1 r1 .nil q1))⟩
theorem Es (pa:PlainAttrs T)(slot:Slot T name id)(Bb:typeOf (.builtin id)=pure (.type "method_descriptor"))(hm:Bm X id r)(ho:PE X o to)(ha:PA X (e::es) t)
  (kq:attributeBase o name X.env (eval o X.env)=eval o X.env:=by rfl)
  (A3:((backTo fT (starEach (e::es) X.env)).all (fun x => !x.1)&&(backToKw fT (keywordEach [] X.env)).all (fun x=>x.1.isSome)
   && decide ((e::es).length+([]:List Keyword).length+(if ([]:List Keyword).isEmpty then 0 else 1)<30))=true:=by rfl)
  (ke:(apos.endLine==fT.line)=true:=by rfl) (hs:starEach (e::es) X.env=(false,eval e X.env)::starEach es X.env:=by rfl) (qK:(backTo fT (starEach es X.env)).any (·.1)=false:=by rfl) :
  PE X (.Call (.Attribute o name apos) (e::es) [] fT) (ME X.K T r to t):=by
 intro pins s σ H Q I h
 refine wpAny_Call_method_late kq A3 ke rfl (aR (ho s σ H _ I h) fun v s1 hz_ =>?_)
 refine ae.el hz_ _ ?_
 clear hz_
 rintro x H1 I1 r1 ⟨ty,q1⟩
 obtain⟨h1,h2⟩:=wL I1 r1 ty
 refine⟨T,id,pa,slot,Bb,h1,h2,?_⟩
 have hA:=ha (pos:=fT) s1 σ H1 _ I1 q1
 rw[hs] at hA ⊢
 refine Calls.callWith_builtin (by show(false||(backTo fT (starEach es X.env)).any (·.1))=false;rw[qK]<;>rfl) (Calls.evalArgs_plain ?_)
 exact aR hA fun us s2 hz_=>ae.el hz_ _ fun vs H2 I2 r2 q2=>hm s2 σ H2 x vs v us Q I2 r1 r2 q2
end
def ur (X:Cx)(id:String)(r:V->List V->Hp->VK->Prop):Prop:=
 ∀ ⦃pins:List (Addr×Obj)⦄ (s:Shared) (σ:St) (H:Hp) (x:V) (xs:List V) (v:Value) (us:List Value) (Q:VK),Inv X pins σ H s->RelV x v->Vals xs us->r x xs H Q ->
  wpAny (model X.prog X.w) X.A (call (.builtin id) (v::us)) (EP X pins σ Q) X.xe s
theorem Vals.hd {x:V}{xs:List V}{us:List Value}(h:Vals (x::xs) us):∃u r,us=u::r/\RelV x u/\Vals xs r:=by
 cases h with|cons a b=>exact⟨_,_,rfl,a,b⟩
theorem Vals.one {x:V}{us:List Value}(h:Vals [x] us):∃u,us=[u]/\RelV x u:=by
 obtain⟨u,r,rfl,a,h⟩:=h.hd
 cases h
 exact⟨_,rfl,a⟩
theorem Vals.two {x y:V}{us:List Value}(h:Vals [x,y] us):∃u v,us=[u,v]/\RelV x u/\RelV y v:=by
 obtain⟨u,r,rfl,a,h⟩:=h.hd
 obtain⟨v,rfl,b⟩:=h.one
 exact⟨_,_,rfl,a,b⟩
theorem Vals.zero:∀{us:List Value},Vals [] us->us=[]
 | _,.nil=>rfl
theorem Vals.dropLast {xs:List V}{us:List Value}(h:Vals xs us):Vals xs.dropLast us.dropLast:=by
 induction h with
 | nil=>exact .nil
 | cons r t ih=>
  cases t with
  | nil=>exact .nil
  | cons q t'=>exact .cons r ih
theorem Vals.eraseIdx:∀{xs:List V} {us:List Value} (i:Nat),Vals xs us->Vals (xs.eraseIdx i) (us.eraseIdx i)
 | _,_,_,.nil =>.nil
 | _,_,0,.cons _ t=>t
 | _,_,i+1,.cons r t =>.cons r (Vals.eraseIdx i t)
theorem Vals.rep {xs:List V}{us:List Value}(h:Vals xs us):∀k:Nat,Vals (Jq k xs).flatten (Jq k us).flatten
 | 0 =>.nil
 | k+1=>by
  rw[Yj,Yj,List.flatten_cons,List.flatten_cons]
  exact Vals.append h (Vals.rep h k)
theorem qJ {α:Type}(l:List α):l.eraseIdx (l.length-1)=l.dropLast:=by
 induction l with
 | nil=>rfl
 | cons a r ih=>
  cases r with
  | nil=>rfl
  | cons b r=>
   have e:(a::b::r).length-1=((b::r).length-1)+1:=by
    have h1:(a::b::r).length=r.length+2:=rfl
    have h2:(b::r).length=r.length+1:=rfl
    omega
   rw[e,List.eraseIdx_cons_succ,ih]
   all_goals rfl
theorem mn {α:Type}:∀(l:List α) (i:Nat),(l.eraseIdx i).length<=l.length
 | [],_=>Jd _
 | _::_,0=>Y0 _
 | _::r,i+1=>Wh (mn r i)
theorem foldl_rep (av:List Value):∀(k:Nat) (acc:List Value),
  List.foldl (fun x1 x2=>x1++x2) acc.toArray (Jq k av.toArray)=(acc++(Jq k av).flatten).toArray
 | 0,acc=>by simp
 | k+1,acc=>by
  have e:acc.toArray++av.toArray=(acc++av).toArray:=by simp
  have e2:(acc++av)++(Jq k av).flatten=acc++(Jq (k+1) av).flatten:=by
   rw[Yj,List.flatten_cons,Ug]
  rw[<-e2,<-foldl_rep av k (acc++av),<-e,Yj,List.foldl_cons]
section
variable {X:Cx}{pins:List (Addr×Obj)}{σ:St}{H:Hp}{s:Shared}{l b:Addr}{xs ys zs:List V}
theorem Inv.qx {av its':List Value}{n:Nat}{f:Array Value->Array Value}{t':Nat}(I:Inv X pins σ H s)(hH:H l=some (.lst xs))
  (e:s.heap.get? l=some { cls := .type "list",data := .seq av.toArray n }) (hf:f av.toArray=its'.toArray) (hv:Vals ys its') (hz:ys.length<=sizeLine) :
  Inv X pins σ (upd H l (.lst ys)) { s with heap:=s.heap.update l (Obj.mapSeq f),toks:=t' }:=by
 have q:=PySem.IsL.update e f
 rw[hf] at q
 refine I.write (x:=l) (e:=l) (by rw[hH];exact trivial) (.inl rfl) (fun b' u hb hu=>(Us s.heap (Obj.mapSeq f) (Ne.symm hb)).trans hu) ⟨_,q⟩ ?_
 exact⟨hz,its',_,hv,q⟩
theorem Inv.DQ {av:List Value}{t':Nat}(I:Inv X pins σ H s)(hv:Vals ys av)(hz:ys.length<=sizeLine):
  Inv X pins σ (upd H s.heap.objs.size (.lst ys)) { s with heap:=s.heap.push { cls := .type "list",data := .seq av.toArray },toks:=t' }:=
 I.laid (fun _ _ q=>Je _ q) (Jd _) ⟨hz,av,0,hv,Jv _ rfl⟩
theorem Inv.fresh (I:Inv X pins σ H s):H s.heap.objs.size=none:=I.aZ.fresh (Jd _)
theorem Inv.jN (I:Inv X pins σ H s)(hH:H l=some (.lst xs)):xs.length<=sizeLine/\∃(av:List Value) (n:Nat),Vals xs av/\xs.length=av.length/\s.heap.get? l=some { cls := .type "list",data := .seq av.toArray n }:=by
 obtain⟨z,av,n,r,e⟩:=I.aZ l _ hH
 exact⟨z,av,n,r,r.length,e⟩
theorem pM {n:Nat}(h:n<=sizeLine):Builtin.List.listTooLong n=false:=by
 unfold Builtin.List.listTooLong
 exact decide_eq_false (by omega)
end
section
variable {X:Cx}
def zw:V->List V->Hp->VK->Prop:=fun x vs H Q=>fR fun l xs y=>x = .ref l/\vs=[y]/\H l=some (.lst xs)/\xs.length<sizeLine/\Q .non (upd H l (.lst (xs++[y])))
theorem uG:ur X "list.append" zw:=by
 intro pins s σ H x vs v us Q I rx rv h
 obtain⟨l,xs,y,rfl,rfl,hH,hz,q⟩:=h
 cases rx
 obtain⟨u,rfl,ru⟩:=rv.one
 obtain⟨z,av,n,r,hl,e⟩:=I.jN hH
 refine call_meets F.slot_list_append ⟨_,e,rfl⟩ F.entry_list_append (F.args_list_append_2 _ _) (PySem.list_append l av.toArray n u (by rw[Jl];omega)) ⟨e,?_⟩
 refine⟨.non,_,I.qx (its':=av++[u]) hH e (by simp) (r.append (.cons ru .nil)) ?_,rfl,q⟩
 rw[Jc,List.length_singleton]
 omega
def zM:V->List V->Hp->VK->Prop:=fun x vs H Q=>om fun l b xs zs=>x = .ref l/\vs=[.ref b]/\H l=some (.lst xs)/\H b=some (.lst zs)/\xs.length+zs.length<=sizeLine/\Q .non (upd H l (.lst (xs++zs)))
theorem uC:ur X "list.extend" zM:=by
 intro pins s σ H x vs v us Q I rx rv h
 obtain⟨l,b,xs,zs,rfl,rfl,hH,hB,hz,q⟩:=h
 cases rx
 obtain⟨u,rfl,ru⟩:=rv.one
 cases ru
 obtain⟨z,av,n,r,hl,e⟩:=I.jN hH
 obtain⟨z2,its2,n2,r2,BE,e2⟩:=I.jN hB
 have hsz:av.toArray.size+its2.toArray.size<=sizeLine:=by rw[Jl,Jl];omega
 have wt:¬(!av.toArray.isEmpty&&Builtin.List.listTooLong (av.toArray.size+its2.toArray.size))=true:=by
  rw[pM hsz,Bool.and_false]
  exact Jm
 refine call_meets F.slot_list_extend ⟨_,e,rfl⟩ F.entry_list_extend (F.args_list_extend_2 _ _)
  (AutoSeq1.list_extend_list_list_0 l av.toArray n b its2.toArray n2 wt (by rw[Jl];omega) (by omega)) ⟨e,e2,?_⟩
 refine⟨.non,_,I.qx (its':=av++its2) hH e (by simp) (r.append r2) ?_,rfl,q⟩
 rw[Jc]
 omega
def Lw:V->List V->Hp->VK->Prop:=fun x vs H Q=>fR fun l xs y=>x = .ref l/\vs=[]/\H l=some (.lst xs)/\xs[xs.length-1]? = some y/\Q y (upd H l (.lst xs.dropLast))
theorem Bj:ur X "list.pop" Lw:=by
 intro pins s σ H x vs v us Q I rx rv h
 obtain⟨l,xs,y,rfl,rfl,hH,hy,q⟩:=h
 cases rx
 have Gg:=rv.zero
 subst Gg
 obtain⟨z,av,n,r,hl,e⟩:=I.jN hH
 obtain⟨u,hu,ru⟩:=r.get hy
 have Iy:av.toArray[av.toArray.size-1]? = some u:=by
  show av.toArray[av.length-1]? = some u
  rw[<-Uk,<-hl]
  exact hu
 refine call_meets F.slot_list_pop ⟨_,e,rfl⟩ F.entry_list_pop (F.args_list_pop_1 _) (MeetsSeq.list_pop_last l av.toArray n u Iy (by rw[Jl];omega)) ⟨e,?_⟩
 refine⟨y,_,I.qx (its':=av.dropLast) hH e ?_ r.dropLast ?_,ru,q⟩
 ·show av.toArray.eraseIdxIfInBounds (av.toArray.size-1)=av.dropLast.toArray
  rw[Jl,List.eraseIdxIfInBounds_toArray,qJ]
 ·rw[List.length_dropLast]
  omega
def B0:V->List V->Hp->VK->Prop:=fun x vs H Q=>AB fun l xs i k y=>x = .ref l/\vs=[.int i]/\H l=some (.lst xs) /\ -(2^63)<=i/\i<2^63/\seqIndex? i xs.length=some k/\xs[k]? = some y/\Q y (upd H l (.lst (xs.eraseIdx k)))
theorem vR:ur X "list.pop" B0:=by
 intro pins s σ H x vs v us Q I rx rv h
 obtain⟨l,xs,i,k,y,rfl,rfl,hH,h1,h2,hk,hy,q⟩:=h
 cases rx
 obtain⟨u,rfl,ru⟩:=rv.one
 obtain⟨t,rfl⟩:=ru
 obtain⟨z,av,n,r,hl,e⟩:=I.jN hH
 obtain⟨w,hw,qm⟩:=r.get hy
 refine call_meets F.slot_list_pop ⟨_,e,rfl⟩ F.entry_list_pop (F.args_list_pop_2 _ _)
  (MeetsSeq.list_pop_at l av.toArray n i t k w (fitsIndex_both h1 h2) (by rw[Jl,<-hl];exact hk) (by rw[<-Uk];exact hw) (by rw[Jl];omega)) ⟨e,?_⟩
 refine⟨y,_,I.qx (its':=av.eraseIdx k) hH e ?_ (r.eraseIdx k) ?_,qm,q⟩
 ·show av.toArray.eraseIdxIfInBounds k=(av.eraseIdx k).toArray
  rw[List.eraseIdxIfInBounds_toArray]
 ·have:=mn xs k
  omega
def Du:R2:=fun x y H Q=>om fun l b xs zs=>x = .ref l/\y = .ref b/\H l=some (.lst xs)/\H b=some (.lst zs)/\xs.length+zs.length<=sizeLine/\∀p,H p=none->Q (.ref p) (upd H p (.lst (xs++zs)))
theorem C1:dB X (binaryOp .Add) Du:=by
 intro pins s σ H x y v u Q I rx ry h
 obtain⟨l,b,xs,zs,rfl,rfl,hH,hB,hz,q⟩:=h
 cases rx
 cases ry
 obtain⟨z,av,n,r,hl,e⟩:=I.jN hH
 obtain⟨z2,its2,n2,r2,BE,e2⟩:=I.jN hB
 refine PySem.P.add_list e e2 ?_ (by rw[Jl,Jl];omega)
 have ea:av.toArray++its2.toArray=(av++its2).toArray:=by simp
 rw[ea]
 exact⟨.ref _,_,I.DQ (t':=s.toks) (r.append r2) (by rw[Jc];omega),rfl,q _ I.fresh⟩
def Ed:R2:=fun x y H Q=>fR fun l k xs=>x = .ref l/\y = .int k/\H l=some (.lst xs) /\ -(2^63)<=k/\k<2^63/\xs.length*k.toNat<=sizeLine /\
 ∀p,H p=none->Q (.ref p) (upd H p (.lst (Jq k.toNat xs).flatten))
theorem len_rep {α:Type}(xs:List α)(k:Nat):(Jq k xs).flatten.length=k*xs.length:=by
 induction k with
 | zero=>simp
 | succ k ih=>rw[Yj,List.flatten_cons,Jc,ih,Nat.succ_mul,Nat.add_comm]
theorem B3:dB X (binaryOp .Mult) Ed:=by
 intro pins s σ H x y v u Q I rx ry h
 obtain⟨l,k,xs,rfl,rfl,hH,h1,h2,hz,q⟩:=h
 cases rx
 obtain⟨t,rfl⟩:=ry
 obtain⟨z,av,n,r,hl,e⟩:=I.jN hH
 have hlen:av.toArray.size*k.toNat<=sizeLine:=by rw[Jl,<-hl];exact hz
 have JF:¬av.toArray.size*k.toNat>(2^63-1) / 8:=by
  have:(sizeLine:Nat)<=(2^63-1) / 8:=by decide
  omega
 have Lo:¬(!Builtin.List.listFitsIndex k)=true:=by
  rw[fitsIndex_both h1 h2]
  exact Jm
 have wt:¬Builtin.List.listTooLong (av.toArray.size*k.toNat)=true:=by
  rw[pM hlen]
  exact Jm
 have qX:List.foldl (fun x1 x2=>x1++x2) #[] (Jq (if av.toArray.isEmpty=true then 0 else k.toNat) av.toArray)=(Jq k.toNat av).flatten.toArray:=by
  have f0:∀m:Nat,List.foldl (fun x1 x2=>x1++x2) #[] (Jq m av.toArray)=(Jq m av).flatten.toArray:=fun m=>by
   have:=foldl_rep av m []
   rw[List.nil_append] at this
   exact this
  rw[f0]
  cases av with
  | nil=>simp
  | cons a r'=>rw[if_neg (by simp)]
 refine wpAny_binaryOp_repeat_ref (T := "list") (U := "int") (by decide) ⟨_,e,rfl⟩ (fun s'=>typeIs_int s' k t) noFill_list_mul F.fills_int_mul F.slot_int_rmul repeat_list F.slot_int_index.lookup
  (call_meets F.slot_int_rmul (typeIs_int s k t) F.entry_int_rmul (F.args_int_rmul_2 _ _) (int___rmul___int_list k t l av.toArray n)
   ⟨e,rfl,⟨_,e,rfl⟩,call_meets F.slot_list_mul ⟨_,e,rfl⟩ F.entry_list_mul (F.args_list_mul_2 _ _) (AutoListH.list___mul___list_int_3 l av.toArray n k t Lo JF wt) ⟨e,?_⟩⟩)
 rw[qX]
 exact⟨.ref _,_,I.DQ (t':=s.toks) (r.rep k.toNat) (by rw[len_rep,Nat.mul_comm];exact hz),rfl,q _ I.fresh⟩
end
section
variable {prog:Program}{w:World}{A:Around}{E:Value->Shared->Prop}{s:Shared}
set_option maxRecDepth 100000 in
end
end L2
namespace Att
open PySem PySem.W PySem.Calls PyProof.Rows
theorem jL {P:Params}{h:Heap}:∀(ns:List Int) (vs:List Value),WellAll P h vs (ns.map WData.int)->IntsAre vs ns:=by
 intro ns
 induction ns with
 | nil=>
  intro vs w
  rw[List.map_nil] at w
  cases w
  exact .nil
 | cons n ns ih=>
  intro vs w
  rw[Uc] at w
  cases w with
  | cons a b=>
   cases a
   exact .cons _ _ (ih _ b)
theorem uH {l:OpenLaw}{n:Nat}(hn:l.most=some n){P:Params}{h:Heap}{args:List WData}{vals:List Value}
  (yO:l.row.toRowW.claim.pre args=true) (Ib:WellAll P h vals args) :
  ∃a vs ns,vals=[Value.ref a]/\args=[WData.list (ns.map WData.int)]/\h.get? a=some { cls := .type "list",data := .seq vs.toArray } /\ IntsAre vs ns/\ns.length<=n:=by
 have Nj:WShape.hasAll [] args [.list .int]=true:=(pre_splitW yO).1
 have hc:l.pre.holds [] { args:=args } = true:=(pre_splitW yO).2
 obtain⟨d,r,rfl,h1,h2⟩:=hasAllW_cons Nj
 obtain rfl:=hasAllW_nil h2
 obtain⟨xs,rfl,h3⟩:=hasW_list h1
 obtain⟨ns,rfl⟩:=items_int h3
 have hlen:ns.length<=n:=by
  unfold OpenLaw.pre at hc
  have h4:(WTm.not (.lt (.lit (.int (n:Int))) (.len (.arg 0)))).holds [] { args:=[.list (ns.map .int)] } = true:=by
   have h4:=(holds_andW hc).1
   rw[hn] at h4
   exact h4
  have h5:=condW_of h4 (w_not (w_lt w_lit (w_len_list (w_arg rfl))))
  rw[Ja] at h5
  refine Y7 fun q =>?_
  have q':(n:Int)<((ns.length:Nat):Int):=by omega
  first
   | (rw[decide_eq_true q'] at h5;exact absurd h5 (by decide))
   | (simp at h5;omega)
 cases Ib with
 | cons w1 w2=>
  cases w2
  cases w1 with
  | list ho dM=>exact⟨_,_,ns,rfl,rfl,ho,jL ns _ dM,hlen⟩
theorem uy (l:OpenLaw)(args:List WData):l.row.toRowW.claim.post args (.bool true) args=true:=
 postW_of (r:=l.row.toRowW) (X:=(true==true))
  (show WShape.has [] (.bool true) .bool=true by first|rfl|decide|simp[WShape.has,WShape.arms,WShape.armsAll])
  (show(WTm.eq .res (.lit (.bool true))).value [] { args:=args,res:=some (.bool true),after:=args } = some (.bool (true==true)) from w_eq_bool (w_res rfl) w_lit) rfl
theorem oJ {l:OpenLaw}{n:Nat}{q:Program}{loose:List Str}{XP:(Str->Option Value)->Heap->Prop}{YP:World->Heap->Prop}{d:DefRec}
  (hn:l.most=some n) (Gq:d.params.defaults=[])
  (call:∀(w:World) (s₀ s₁:Shared) (mg mb:Str->Option Value) (fa:Addr) (o:Obj) (pm cd doc:Value) (a:Addr) (vs:List Value) (ns:List Int),
   Ground q loose [] XP w s₀ mg mb s₁.heap->YP w s₁.heap ->
   s₁.heap.get? fa=some o->o.data = .func (docDef d.name d.params d.body d.scope pm cd doc)->s₁.heap.CodeRec cd d.name->mg d.name=some (.ref fa) ->
   s₁.heap.get? a=some { cls := .type "list",data := .seq vs.toArray } -> IntsAre vs ns->ns.length<=n->s₁.gens = #[] ->
   codeAny (model l.prog w) callerA (.call (.ref fa) ⟨[.ref a],[]⟩) (fun r s'=>r = .ok (.ret (.bool true))/\OldK s₁.heap s'.heap/\s'.os=s₁.os/\AllBare s'.gens) s₁) :
  WalkO q loose XP YP l.row.toRowW d [] (fun f vs=>PySem.call f vs):=by
 intro w s₀ s₁ mg mb G Y fa o pm cd doc dV kV ho hd vB hD hmg hg args vals as yO hlay hrd Ib v7
 obtain rfl:dV = .none:=Dflts.none hD Gq
 obtain rfl:kV = .none:=Dflts.noKw hD
 obtain⟨a,vs,ns,rfl,rfl,hobj,hints,hlen⟩:=uH hn yO Ib
 refine enter_call (codeAny_mono (call w s₀ s₁ mg mb fa o pm cd doc a vs ns G Y ho (fd_plain hd) vB hmg hobj hints hlen hg) fun r s' hq =>?_)
 obtain⟨rfl,h2,h3,h4⟩:=hq
 exact⟨.inl ⟨.bool true,.bool true,[],rfl,fun _=>rfl,.bool true,uy l _,fun _=>⟨List.Pairwise.nil,fun _ hm=>(nomatch hm)⟩⟩,h2,h3,h4⟩
end Att
namespace L2
open PySem PySem.Spec PyProof.Rows
theorem uJ {vs:List Value}{ns:List Int}(h:IntsAre vs ns):Vals (ns.map V.int) vs:=by
 induction h with
 | nil=>exact .nil
 | cons n t h ih=>exact .cons ⟨t,rfl⟩ ih
def Co (H:Hp):Prop:=∀b,H b=none∨ck fun o xs=>H b=some (.frz o (.lst xs))
theorem vU {P:Program}{w:World}{K:Jb}{mg mb:Str->Option Value}{CX:sv}{k:Nat}{fa a:Addr}{fd:FuncData}{x:Str}{sp:Sp}{s₁:Shared}{vs:List Value}{ns:List Int}
  (KX:K.In s₁.heap) (AE:s₁.heap.Ns mainGlobals mg) (hb:s₁.heap.Ns builtinsNs mb) (O9:∀x:Str,x ≠ "__name__" -> mb x=bootBuiltins x) (IX:s₁.heap.NoLimit) (hg:s₁.gens = #[])
  (ha:s₁.heap.get? a=some { cls := .type "list",data := .seq vs.toArray }) (hi:IntsAre vs ns) (hl:ns.length<=sizeLine) (hr:dH k callerA)
  (F:∀base:Heap,K.In base->base.Ns mainGlobals mg->bM P w K mg base CX k fa fd [x] sp) (DH:∀(s:Shared) (u:Value),BindsTo s fd ⟨[u],[]⟩ [(x,u)])
  (pZ:∀H:Hp,Co H->aE K H a (ns.map V.int)->sp [.ref a] H (fun v _=>v = .bl true) fun _ _ _=>False)
  (Ly:∀H e s',CX [] H s₁ (fun _ _ _=>False) e s'->False) :
  codeAny (model P w) callerA (.call (.ref fa) ⟨[.ref a],[]⟩) (fun r s'=>r = .ok (.ret (.bool true))/\OldK s₁.heap s'.heap/\s'.os=s₁.os/\AllBare s'.gens) s₁:=by
 have rv:=uJ hi
 have Io:=hi.length
 have core:∀H:Hp,Co H->aE K H a (ns.map V.int)->eK P w H s₁.heap->(∀b,H b≠none->b=a)->(H a≠none->K.lookup a=none) ->
   codeAny (model P w) callerA (.call (.ref fa) ⟨[.ref a],[]⟩) (fun r s'=>r = .ok (.ret (.bool true))/\OldK s₁.heap s'.heap/\s'.os=s₁.os/\AllBare s'.gens) s₁:=by
  intro H hO hS aZ hA hK
  have sZ:∀{b:Addr} {o:Obj},s₁.heap.get? b=some o->H b=none->(nW s₁.heap H).get? b=some o:=fun e n=>wY e n
  have ES:∀{b:Addr} {o:Obj} {es:Array DictEntry} {ep:Nat},s₁.heap.get? b=some o->o.data = .dict es ep->H b=none:=fun{b o es ep} e d=>by
   cases q:H b with
   | none=>rfl
   | some u=>
    have e':b=a:=hA b (by rw[q];simp)
    subst e'
    rw[ha] at e;cases e
    have d':Data.seq vs.toArray _=Data.dict es ep:=d
    cases d'
  have Hg:∀{b:Addr} {m:Str->Option Value},s₁.heap.Ns b m->(nW s₁.heap H).Ns b m:=fun{b m} ⟨o,es,ep,e,d,r⟩=>⟨o,es,ep,sZ e (ES e d),d,r⟩
  have MP:K.In (nW s₁.heap H):=fun b o e=>sZ (KX b o e) (by
   cases q:H b with
   | none=>rfl
   | some u=>
    have e':b=a:=hA b (by rw[q];simp)
    subst e'
    rw[hK (by rw[q];simp)] at e;cases e)
  have hM:Mod K mg (nW s₁.heap H):=⟨MP,Hg AE,⟨mb,Hg hb,O9⟩,let ⟨mc,h1,h2⟩:=IX; ⟨mc,Hg h1,h2⟩⟩
  have e0:qB P w K mg (nW s₁.heap H) callerA [] s₁ H:=⟨rfl,hM,fun b o e=>ym e,Y2 (u4 _ _),trivial,fun b hb=>absurd (show b∈([]:List Addr) from hb) (by simp),aZ,.of_eq hg⟩
  refine codeAny_mono ((F _ MP (Hg AE)).run callerA [] s₁ H ⟨[.ref a],[]⟩ [.ref a] [.ref a] _ _ hr e0 (DH s₁ (.ref a)) (.cons rfl .nil) (pZ H hO hS)) fun r s' h =>?_
  cases r with
  | error e=>exact(Ly H e s' h).elim
  | ok fl=>
   cases fl with
   | next=>exact False.elim h
   | brk=>exact False.elim h
   | cont=>exact False.elim h
   | ret u=>
    obtain⟨v,H',os,bare,un,xo,r',q⟩:=h
    have q':v = .bl true:=q
    subst q'
    obtain rfl:u=Value.bool true:=r'
    refine⟨rfl,OldK.of_keep fun b o e =>?_,os,bare⟩
    cases q:H b with
    | none=>exact un.keep b o e q (by intro z;exact absurd (show b∈([]:List Addr) from z) (by simp)) (by simp)
    | some u=>
     rcases hO b with z|⟨ob,xs,z⟩
     ·rw[q] at z;cases z
     ·have z2:=un.eV b ob _ z
      obtain⟨e1,_⟩:=aZ b _ z
      obtain⟨e2,_⟩:=xo b _ z2
      rw[e] at e1;cases e1
      exact e2
 cases hk:K.lookup a with
 | some o=>
  have e:=KX a o hk
  rw[ha] at e
  cases e
  refine core (fun _=>none) (fun _ =>.inl rfl) (.inr ⟨_,vs.toArray,_,hk,rfl,rfl,rfl,by rw[Jl,Io];exact hl,by simpa using rv⟩) (fun b u z=>by have z':(none:Option HO)=some u:=z;cases z') (fun b z=>absurd rfl z) fun z=>absurd rfl z
 | none=>
  refine core (fun b=>if b=a then some (.frz { cls := .type "list",data := .seq vs.toArray } (.lst (ns.map V.int))) else none) (fun b =>?_) (.inl (.inr ⟨{ cls := .type "list",data := .seq vs.toArray },if_pos rfl⟩)) (fun b u z =>?_) (fun b z =>?_) fun _=>hk
  ·by_cases hb:b=a
   ·exact .inr ⟨_,_,if_pos hb⟩
   ·exact .inl (if_neg hb)
  ·by_cases hb:b=a
   ·have z':=(if_pos hb).symm.trans z
    cases z'
    subst hb
    exact⟨ha,by rw[Ja];exact hl,vs,_,rv,ha⟩
   ·have z':=(if_neg hb).symm.trans z
    cases z'
  ·by_cases hb:b=a
   ·exact hb
   ·exact absurd (if_neg hb) z
theorem yH {l:PySem.W.OpenLaw}{n k:Nat}{q:Program}{loose:List Str}{XP:(Str->Option Value)->Heap->Prop}{YP:World->Heap->Prop}{d:DefRec}{K:Params->Jb}{CX:World->sv}{sp:World->Sp}{x:Str}
  (hn:l.most=some n) (Bl:n<=sizeLine) (Gq:d.params.defaults=[]) (hr:dH k callerA)
  (hY:∀(w:World) (h:Heap),YP w h->(K w.params).In h)
  (F:∀(w:World) (mg:Str->Option Value) (fa:Addr) (h:Heap),(K w.params).In h->h.Ns mainGlobals mg->mg d.name=some (.ref fa) ->
   ∃fd:FuncData,(∀(s:Shared) (u:Value),BindsTo s fd ⟨[u],[]⟩ [(x,u)]) /\
    ∀base:Heap,(K w.params).In base->base.Ns mainGlobals mg->bM l.prog w (K w.params) mg base (CX w) k fa fd [x] (sp w))
  (pZ:∀(w:World) (H:Hp) (a:Addr) (ns:List Int),ns.length<=n->Co H->aE (K w.params) H a (ns.map V.int)->sp w [.ref a] H (fun v _=>v = .bl true) fun _ _ _=>False)
  (Ly:∀(w:World) (H:Hp) (s:Shared) (e:Value) (s':Shared),CX w [] H s (fun _ _ _=>False) e s'->False) :
  PySem.W.WalkO q loose XP YP l.row.toRowW d [] (fun f vs=>PySem.call f vs):=by
 refine Att.oJ hn Gq fun w s₀ s₁ mg mb fa o pm cd doc a vs ns G Y ho hd vB hmg hobj hints hlen hg =>?_
 have KX:=hY w _ Y
 obtain⟨fd,hb,hF⟩:=F w mg fa _ KX G.T.g hmg
 exact vU KX G.T.g G.T.b G.T.builtins G.T.nolimit hg hobj hints (Js hlen Bl) hr hF hb (fun H hO hS=>pZ w H a ns hlen hO hS) fun H e s'=>Ly w H s₁ e s'
noncomputable def gQ (s:Stmt):Arguments:=match s with
 | .FunctionDef _ a _ _ _ _ _ _ _ _=>a
 | _=>{ posonlyargs:=[],args:=[],vararg:=none,kwonlyargs:=[],kw_defaults:=[],kwarg:=none,defaults:=[] }
noncomputable def fh (s:Stmt):List Stmt:=match s with
 | .FunctionDef _ _ b _ _ _ _ _ _ _=>b
 | _=>[]
noncomputable def aB (s:Stmt):Scope:=match s with
 | .FunctionDef _ _ _ _ _ _ sc _ _ _=>sc
 | _=>{ kind := .function,names:=[],isGenerator:=false,isCoroutine:=false }
abbrev gU:sv:=fun _ _ _ _ _ _=>False
abbrev E0:XK:=fun _ _ _=>False
theorem Gi {X:Cx}:Passes gU X E0:=fun _ _ _ _ _ _ _ h=>h.elim
structure dh (K:Jb)(x qual:Str)(st:Stmt)(f:Addr)(fd:FuncData):Prop where
 ex:∃(oc:Value) (od:Option Addr) (kV doc pm:Value) (an:Option Addr) (dG ct:Value) (Ay:Array (Option Value)),
  fd=Wz x qual (gQ st) (fh st) (aB st) .none kV doc pm an dG ct/\K.lookup f=some ⟨oc,od,.func fd,Ay⟩/\PySem.W.codeIn K dG qual=true
 kp:PySem.W.keepIn K (.ref f)=true
section
variable {P:Program}{w:World}{K:Jb}{mg:Str->Option Value}{base:Heap}
theorem dh.ok {x qual:Str}{st:Stmt}{f:Addr}{fd:FuncData}{N ps:List Str}{k:Nat}{sp:Sp}(F:dh K x qual st f fd)(S:aO N ps (aB st))(len:∀vs H Q E,sp vs H Q E->vs.length=ps.length)
  (v8:∀(dG:Value) (A:Around) (outer:List Env) (s:Shared) (H:Hp) (vs:List V) (Q:VK) (E:XK),dH k (A.deeper (envOfC qual (aB st) s.heap.objs.size f dG))->sp vs H Q E ->
   ∃t,rP (tX gU P w K mg base N qual (aB st) f dG A outer s H E).GY (fh st) t/\t { nx:=fun _ H'=>Q .non H',rt:=Q } (start N vs) H):bM P w K mg base gU (k+1) f fd ps sp:=by
 obtain⟨oc,od,kV,doc,pm,an,dG,ct,Ay,rfl,lk,vB⟩:=F.ex
 refine F0 lk vB S len fun A outer s H vs Q E hr pZ =>?_
 obtain⟨t,h,q⟩:=v8 dG A outer s H vs Q E hr pZ
 exact⟨t,h.GY,q⟩
theorem dh.binds {x qual:Str}{st:Stmt}{f:Addr}{fd:FuncData}{ps:List Str}(F:dh K x qual st f fd)
  (h:∀(kV doc pm:Value) (an:Option Addr) (dG ct:Value) (us:List Value),us.length=ps.length->bindArgs (Wz x qual (gQ st) (fh st) (aB st) .none kV doc pm an dG ct) ⟨us,[]⟩=pure (ps.zip us)):Binds K fd ps []:=by
 obtain⟨oc,od,kV,doc,pm,an,dG,ct,Ay,rfl,lk,vB⟩:=F.ex
 exact .all (h kV doc pm an dG ct)
theorem bq {x qual:Str}{st:Stmt}{f:Addr}{oc:Value}{od an:Option Addr}{Ay:Array (Option Value)}{kV doc pm dG ct:Value}(l:K.lookup f=some ⟨oc,od,.func (Wz x qual (gQ st) (fh st) (aB st) .none kV doc pm an dG ct),Ay⟩)
  (c:PySem.W.codeIn K dG qual=true) (k:PySem.W.keepIn K (.ref f)=true):dh K x qual st f (Wz x qual (gQ st) (fh st) (aB st) .none kV doc pm an dG ct):=⟨⟨oc,od,kV,doc,pm,an,dG,ct,Ay,rfl,l,c⟩,k⟩
end
theorem eY {A:Around}{k:Nat}(hr:dH k A):A.units+1<cLine:=Jy (Yc (by decide:1<=64) _) hr.units
section
variable {X:Cx}
theorem pv (i:Nat){x:Str}{pos:Pos}(hN:X.N[i]? = some x:=by rfl)(hv:C6 X.env.scope x:=by first|exact Or.inl rfl|exact Or.inr (Or.inl rfl)|exact Or.inr (Or.inr rfl))(hd:(x==("__debug__" : Str))=false:=by decide)
  (vB:(x==("__classdict__" : Str))=false:=by decide):PE X (.Name x pos) (mY i):=CK hN hv hd vB
end
theorem bA {A B:Prop}(h:B):if false=true then A else B:=by
 rw[if_neg Jm]
 exact h
theorem e7 {A B:Prop}(h:A):if true=true then A else B:=by
 rw[if_pos rfl]
 exact h
theorem ee {c A B:Prop}[Decidable c](h1:c->A)(h2:¬c->B):if c then A else B:=by
 by_cases h:c
 ·rw[if_pos h]
  exact h1 h
 ·rw[if_neg h]
  exact h2 h
def aw (H H':Hp):Prop:=∀b o,H b=some o->H' b=some o
theorem aw.refl (H:Hp):aw H H:=fun _ _ h=>h
theorem aw.trans {H H1 H2:Hp}(a:aw H H1)(b:aw H1 H2):aw H H2:=fun c o h=>b c o (a c o h)
theorem aw.free {H H':Hp}(e:aw H H'){l:Addr}(h:H' l=Option.none):H l=Option.none:=by
 cases q:H l with
 | none=>rfl
 | some o=>
  rw[e l o q] at h
  cases h
theorem aw.seq {K:Jb}{H H':Hp}{a:Addr}{xs:List V}(e:aw H H')(h:aE K H a xs):aE K H' a xs:=by
 rcases h with (h|⟨o,h⟩)|h
 ·exact .inl (.inl (e _ _ h))
 ·exact .inl (.inr ⟨o,e _ _ h⟩)
 ·exact .inr h
section
variable {κ:Type}[DecidableEq κ]
theorem iM {kvs:List (κ×V)}{k: κ}(h:az kvs k=none):¬k∈kvs.map (·.1):=by
 intro m
 obtain⟨p,hp,e⟩:=J1.mp m
 have q:(kvs.any fun kv=>decide (kv.1=k))=true:=List.any_eq_true.mpr ⟨p,hp,decide_eq_true e⟩
 rw[d4,h] at q
 exact absurd q (by simp)
theorem tj {kvs:List (κ×V)}{k: κ}{v:V}(h:az kvs k=some v):k∈kvs.map (·.1):=by
 have q:(kvs.any fun kv=>decide (kv.1=k))=true:=by
  rw[d4,h]
  all_goals rfl
 obtain⟨p,hp,e⟩:=List.any_eq_true.mp q
 exact J1.mpr ⟨p,hp,of_decide_eq_true e⟩
theorem m5:∀{l:List κ} {k: κ},l.Nodup->¬k∈l->(l++[k]).Nodup
 | [],k,_,_=>by simp
 | a::r,k,h,hk=>by
  obtain⟨h1,h2⟩:=Yd.mp h
  show(a::(r++[k])).Nodup
  refine Yd.mpr ⟨fun m =>?_,m5 h2 fun m=>hk (Um.mpr (Or.inr m))⟩
  rcases Ji.mp m with q|q
  ·exact h1 q
  ·exact hk (Um.mpr (Or.inl (Jg.mp q).symm))
end
end L2
set_option maxHeartbeats 4000000
namespace L2
open PySem PySem.Spec PyProof.Rows
abbrev fN:Value->Shared->Prop:=fun _ _=>False
theorem bp {α:Type}{M:Model}{A:Around}{t:Sem α}{Q: α->Shared->Prop}{E:Value->Shared->Prop}{s:Shared}(h:wpAny M A t Q fN s):wpAny M A t Q E s:=
 wpAny_mono h (fun _ _ q=>q) fun _ _ z=>z.elim
theorem cq {a b:Addr}{n:Nat}(h:a<n)(h':n<=b):a≠b:=fun e=>absurd (J3 h h') (by rw[e];exact Yg _)
theorem oy {a b:Addr}{n:Nat}(h:a<n)(h':n<=b):b≠a:=fun e=>cq h h' e.symm
theorem ik (env:Env):∀(names:List (Str×NameKind)) (acc:List (Str×Addr)),
  (∀y∈names,y.2 = .free->∃c,env.cells.lookup y.1=some c)->(∀n c,acc.lookup n=some c->env.cells.lookup n=some c) ->
  ∃cl,(forIn names acc fun(x:Str×NameKind) (cs:List (Str×Addr))=>(if (x.2==NameKind.free)=true then do
    let a <-cellOf env x.1
    pure (ForInStep.yield ((x.1,a)::cs)) else pure (ForInStep.yield cs):Sem (ForInStep (List (Str×Addr)))))=pure cl /\
   (∀n c,cl.lookup n=some c->env.cells.lookup n=some c)/\(∀n c,acc.lookup n=some c->∃c',cl.lookup n=some c')/\∀y∈names,y.2 = .free->∃c,cl.lookup y.1=some c
 | [],acc,_,h2=>⟨acc,rfl,h2,fun _ c h=>⟨c,h⟩,fun _ h=>nomatch h⟩
 | (n,k)::r,acc,h1,h2=>by
  have hr:∀y∈r,y.2 = .free->∃c,env.cells.lookup y.1=some c:=fun y hy=>h1 y (Jp _ hy)
  by_cases hk:k = .free
  ·subst hk
   obtain⟨c,hc⟩:=h1 (n,.free) Jn rfl
   obtain⟨cl,e,p1,p2,p3⟩:=ik env r ((n,c)::acc) hr (fun m d hm=>by
    rw[U0] at hm
    by_cases q:m==n
    ·rw[q] at hm
     have:m=n:=by simpa using q
     subst this
     cases hm
     exact hc
    ·have q':(m==n)=false:=by simpa using q
     rw[q'] at hm
     exact h2 m d hm)
   refine⟨cl,?_,p1,fun m d hm =>?_,fun y hy hf =>?_⟩
   ·rw[List.forIn_cons]
    rw[<-e]
    show(cellOf env n >>= fun a=>_) >>= _=_
    unfold cellOf
    rw[hc]
    rfl
   ·by_cases q:m=n
    ·subst q
     exact p2 m c (by rw[U0];simp)
    ·exact p2 m d (by rw[U0];simp -iota only [beq_eq_false_iff_ne.mpr q];exact hm)
   ·rcases Um.mp hy with rfl|hy
    ·exact p2 n c (by rw[U0];simp)
    ·exact p3 y hy hf
  ·refine ae.el (ik env r acc hr h2) _ ?_
   rintro cl e p1 p2 p3
   refine⟨cl,?_,p1,p2,fun y hy hf =>?_⟩
   ·rw[List.forIn_cons,<-e]
    have hb:(k==NameKind.free)=false:=by simpa using hk
    simp -iota only [hb,Ua,if_false]
    rfl
   ·rcases Um.mp hy with rfl|hy
    ·exact absurd hf hk
    ·exact p3 y hy hf
theorem iq {scope:Scope}{env:Env}(h:∀y∈scope.names,y.2 = .free->∃c,env.cells.lookup y.1=some c):
  ∃cl,closureFor scope env=pure cl/\(∀n c,cl.lookup n=some c->env.cells.lookup n=some c)/\∀y∈scope.names,y.2 = .free->∃c,cl.lookup y.1=some c:=by
 obtain⟨cl,e,p1,_,p3⟩:=ik env scope.names [] h (fun n c h=>by simp at h)
 refine⟨cl,?_,p1,p3⟩
 unfold closureFor
 refine Eq.trans ?_ (congrArg (fun m=>m >>= fun(cs:List (Str×Addr))=>(pure cs:Sem _)) e)
 rfl
noncomputable def nc (ifs:List Expr)(env:Env):Sem Bool:=forIn ifs true fun c r=>if r=true then do let ok <-isTrue c env (eval c env);pure (ForInStep.yield ok) else pure (ForInStep.yield r)
section
variable {prog:Program}{w:World}{A:Around}{R:Result->Shared->Prop}{s:Shared}
theorem qQ {elt target iter:Expr}{ifs:List Expr}{scope:Scope}{pos:Pos}{it acc:Value}{env:Env}(I:Nat->Shared->Prop)
  (turn:∀n s,I n s->wpAny (model prog w) A (pyNext it) (fun r s1=>match r with
   | none=>R (.ok .next) s1
   | some v=>wpAny (model prog w) A (letOwnedTupleGo target it v) (fun _ s1'=>wpAny (model prog w) A (assign target env v) (fun _ s2=>
     wpAny (model prog w) A (nc ifs env) (fun ok s3=>
      if ok=true then wpAny (model prog w) A (eval elt env) (fun x s4=>
       wpAny (model prog w) A (call (.builtin "list.append") [acc,x]) (fun _ s5=>∃m,m<n/\I m s5) fN s4) fN s3
      else ∃m,m<n/\I m s3) fN s2) fN s1') fN s1) fN s)
  (n:Nat) (h:I n s):codeAny (model prog w) A (.compLoop (.ListComp elt [⟨target,iter,ifs,0⟩] scope pos) 0 it acc env) R s:=by
 refine codeAny_loop rfl I (fun n s hI=>(show wpAny _ A (Sem.onRaise (compTurn (.ListComp elt [⟨target,iter,ifs,0⟩] scope pos) 0 it acc env) (fun x=>do noteFrame x env;theTreesLotGoes x)) _ _ s from wpAny_noted ?_)) n h
 rw[compTurn_list]
 refine wpAny_bind (wpAny_standAt (wpAny_bind (bp (aR (turn n s hI) fun r s1 h1 =>?_))))
 cases r with
 | none=>exact wpAny_pure h1
 | some v=>
  refine wpAny_bind (bp (aR h1 fun _ s1' h1' =>?_))
  refine wpAny_bind (bp (aR h1' fun _ s2 h2=>wpAny_bind (bp (aR h2 fun ok s3 h3 =>?_))))
  cases ok with
  | false=>exact wpAny_pure ⟨rfl,h3⟩
  | true=>exact wpAny_bind (wpAny_bind (bp (aR h3 fun x s4 h4=>wpAny_bind (bp (aR h4 fun _ s5 h5=>wpAny_pure (wpAny_pure ⟨rfl,h5⟩))))))
end
theorem eK.adopt {P:Program}{w:World}{H:Hp}{h:Heap}{a:Addr}{o:HO}(x:eK P w H h)(hn:H a=none)(new:bo P w (upd H a o) h a o):eK P w (upd H a o) h:=fun b u e=>by
 by_cases hb:b=a
 ·subst hb;rw[aJ] at e;cases e;exact new
 ·rw[aq hb] at e
  exact(x b u e).fP (fun c v _ q=>q) (fun c q=>by rw[aq (aj q hn)];exact q) fun c xs q=>by rw[aq (aj q hn)];exact q
structure dC (X:Cx)(scope:Scope)(Nc Fc:List Str)(js:List Nat):Prop where
 kind:scope.kind = .function
 nocell:∀y∈scope.names,y.2 ≠ .cell
 names:∀y∈scope.names,y.2 = .local->scope.names.lookup y.1=some .local
 free:∀y∈scope.names,y.2 = .free->X.env.kindOf y.1=some .cell∨X.env.kindOf y.1=some .free
 frees:∀(k:Nat) (x:Str),Fc[k]? = some x->scope.names.lookup x=some .free/\∃j,js[k]? = some j/\X.N[j]? = some x
 lens:js.length=Fc.length
noncomputable def cL (σ:St)(js:List Nat):St:=js.map fun j=>(σ[j]?).join
noncomputable def ff (X:Cx)(Nc Fc:List Str)(scope:Scope)(cl:List (Str×Addr))(C:Addr)(s:Shared)(H:Hp)(fp:List Addr):Cx:=
 { X with N:=Nc++Fc,s₀:=s,H₀:=H,env:=compEnvC scope cl C X.env,outer:=X.stack,stack:=X.stack,ex:=fp,fn:=fun _=>false,pn:=[],xe:=fN }
theorem fH {env:Env}:∀{names:List (Str×NameKind)} {x:Str} {k:NameKind},(names.map fun(n,k)=>if (k==NameKind.free&&env.scope.kind == .function&&env.kindOf n==some .cell) then (n,NameKind.cell) else (n,k)).lookup x=some k ->
  names.lookup x=some k∨(k = .cell/\names.lookup x=some .free)
 | [],_,_,h=>by simp at h
 | (n,k0)::r,x,k,h=>by
  have ih := @fH env r x k
  rw[Uc] at h
  dsimp only at h
  by_cases hx:x=n
  ·subst hx
   by_cases hc:(k0==NameKind.free&&env.scope.kind == .function&&env.kindOf x==some .cell)=true
   ·rw[if_pos hc] at h
    simp -iota only [U0,beq_self_eq_true] at h
    have hk:k0 = .free:=by
     have:=(Ys _ _).mp ((Ys _ _).mp hc).1
     simpa using this.1
    subst hk
    cases h
    exact .inr ⟨rfl,by simp only[U0,beq_self_eq_true]⟩
   ·rw[if_neg hc] at h
    simp -iota only [U0,beq_self_eq_true] at h ⊢
    exact .inl h
  ·have hb:(x==n)=false:=beq_eq_false_iff_ne.mpr hx
   have e:List.lookup x ((if (k0==NameKind.free&&env.scope.kind == .function&&env.kindOf n==some .cell)=true then (n,NameKind.cell) else (n,k0))::(r.map fun(n,k)=>if (k==NameKind.free&&env.scope.kind == .function&&env.kindOf n==some .cell) then (n,NameKind.cell) else (n,k)))=some k:=h
   have e2:List.lookup x (r.map fun(n,k)=>if (k==NameKind.free&&env.scope.kind == .function&&env.kindOf n==some .cell) then (n,NameKind.cell) else (n,k))=some k:=by
    by_cases hc:(k0==NameKind.free&&env.scope.kind == .function&&env.kindOf n==some .cell)=true
    ·rw[if_pos hc] at e;simp -iota only [U0,hb] at e;exact e
    ·rw[if_neg hc] at e;simp -iota only [U0,hb] at e;exact e
   simp -iota only [U0,hb]
   exact ih e2
theorem dE {env:Env}:∀{names:List (Str×NameKind)} {x:Str},names.lookup x=some .free ->
  (names.map fun(n,k)=>if (k==NameKind.free&&env.scope.kind == .function&&env.kindOf n==some .cell) then (n,NameKind.cell) else (n,k)).lookup x=some .cell ∨
  (names.map fun(n,k)=>if (k==NameKind.free&&env.scope.kind == .function&&env.kindOf n==some .cell) then (n,NameKind.cell) else (n,k)).lookup x=some .free
 | [],_,h=>by simp at h
 | (n,k0)::r,x,h=>by
  have ih := @dE env r x
  rw[Uc]
  dsimp only
  by_cases hx:x=n
  ·subst hx
   simp -iota only [U0,beq_self_eq_true] at h
   cases h
   by_cases hc:(NameKind.free==NameKind.free&&env.scope.kind == .function&&env.kindOf x==some .cell)=true
   ·rw[if_pos hc];left;simp only[U0,beq_self_eq_true]
   ·rw[if_neg hc];right;simp only[U0,beq_self_eq_true]
  ·have hb:(x==n)=false:=beq_eq_false_iff_ne.mpr hx
   simp -iota only [U0,hb] at h
   by_cases hc:(k0==NameKind.free&&env.scope.kind == .function&&env.kindOf n==some .cell)=true
   ·rw[if_pos hc];simp -iota only [U0,hb];exact ih h
   ·rw[if_neg hc];simp -iota only [U0,hb];exact ih h
theorem bP:∀{l:List (Str×NameKind)} {x:Str} {k:NameKind},l.lookup x=some k->(x,k)∈l:=fun h=>PySem.mem_of_lookup h
section
variable {X:Cx}{pins:List (Addr×Obj)}{σ:St}{H:Hp}{s:Shared}{scope:Scope}{Nc Fc:List Str}{js:List Nat}{cl:List (Str×Addr)}{C D:Addr}{fp:List Addr}
theorem kH {x:Str}:(ff X Nc Fc scope cl C s H fp).env.kindOf x=(scope.names.map fun(n,k)=>if (k==NameKind.free&&X.env.scope.kind == .function&&X.env.kindOf n==some .cell) then (n,NameKind.cell) else (n,k)).lookup x:=rfl
theorem ko (I:Inv X pins σ H s)(c:dC X scope Nc Fc js)(dk:∀n c,cl.lookup n=some c->X.env.cells.lookup n=some c)(g6:∀y∈scope.names,y.2 = .free->∃c,cl.lookup y.1=some c)
  (hC:s.heap.objs.size<=C) (hf:∀b∈fp,eg X pins H b) (ho:∀b∈fp,∃o,s.heap.get? b=some o):(ff X Nc Fc scope cl C s H fp).Ok where
 mod:=I.ok.mod
 kind:=c.kind
 glob:=I.ok.glob
 blt:=I.ok.blt
 above:=hC
 inj:=fun x y a h1 h2=>I.ok.inj x y a (dk _ _ h1) (dk _ _ h2)
 has:=fun x hx=>by
  have key:scope.names.lookup x=some .free:=by
   rw[kH] at hx
   rcases hx with h|h
   ·rcases fH h with q|⟨_,q⟩
    ·exact absurd rfl (c.nocell _ (bP q))
    ·exact q
   ·rcases fH h with q|⟨q,_⟩
    ·exact q
    ·cases q
  exact g6 _ (bP key) rfl
 cab:=fun _ _ h=>nomatch h
 hd:=I.ok.hd
 frames:=I.ok.frames
 stk := .inl rfl
 exf:=fun b hb=>⟨fun z=>by
   obtain⟨o,e⟩:=ho b hb
   exact cq (Jo e) hC z,fun x a e z=>(hf b hb).2.2.2.2.1 x a (dk _ _ e) z⟩
 bs:=fun b o e=>I.bs b o e
 bsz:=Js I.ok.bsz I.sz
 noex:=fun b o e hb=>by
  rcases(hf b hb).2.2.2.1 with z|z
  ·exact I.ok.noex b o e z
  ·exact absurd (J3 (Jo (I.ok.bs b o e).1) z) (Yg _)
 exfs:=fun b hb z=>by
  rcases Um.mp (I.nv b z) with q|q
  ·exact(hf b hb).2.1 q
  ·exact(hf b hb).2.2.1 q
 g5:=I.stack
 qP:=I.rZ
theorem y6 (I:Inv X pins σ H s)(c:dC X scope Nc Fc js)(dk:∀n c,cl.lookup n=some c->X.env.cells.lookup n=some c)(g6:∀y∈scope.names,y.2 = .free->∃c,cl.lookup y.1=some c)
  (hC:s.heap.objs.size<=C) (hD:s.heap.objs.size<=D) (Dj:D≠C) (hf:∀b∈fp,eg X pins H b) (ho:∀b∈fp,∃o,s.heap.get? b=some o) {h1:Heap} {t1:Nat} {m:Str->Option Value} {ob:Obj}
  (hk:∀b o,s.heap.get? b=some o->h1.get? b=some o) (hm:h1.Ns C m) (FI:h1.get? D=some ob) (JP:∀v,ob.data ≠ .cell v) :
  Inv (ff X Nc Fc scope cl C s H fp) [(D,ob)] (Jq Nc.length none++cL σ js) H { s with heap:=h1,toks:=t1 }:=by
 refine⟨ko I c dk g6 hC hf ho,rfl,I.bare,Un.kept hk,⟨m,hm,fun i x v e1 e2 e3 =>?_⟩,fun x a e =>?_,I.aZ.fresh hC,fun x a e=>I.freeC x a (dk x a e),fun p hp =>?_,I.aZ.kept hk,?_⟩
 ·have e1:(Nc++Fc)[i]? = some x:=e1
  have e2:(Jq Nc.length none++cL σ js)[i]? = some (some v):=e2
  by_cases hi:i<Nc.length
  ·rw[Ut (by simpa using hi),Yz] at e2
   split at e2<;>cases e2
  ·rw[Ui (by omega)] at e1
   rw[Ui (by rw[Uy];omega),Uy] at e2
   refine ae.el (c.frees _ _ e1) _ ?_
   rintro t9 j hj hN
   have hv: σ[j]? = some (some v):=by
    unfold cL at e2
    rw[Jj,hj] at e2
    have e2:some ((σ[j]?).join)=some (some v):=e2
    cases q: σ[j]? with
    | none=>rw[q] at e2;cases e2
    | some z=>rw[q] at e2;cases e2;rfl
   have kx:=c.free _ (bP t9) rfl
   refine ae.el (I.loc) _ ?_
   rintro m0 MB hl0
   have Gw:C6 X.env.scope x:=by
    rcases kx with k|k
    ·exact .inr (.inl k)
    ·exact .inr (.inr k)
   refine ae.el (hl0 j x v hN hv Gw) _ ?_
   rintro u ru lk
   refine⟨u,ru,.inr ⟨?_,?_⟩⟩
   ·rw[kH];exact dE t9
   ·obtain⟨a,ha⟩:=g6 _ (bP t9) rfl
    refine⟨a,ha,?_⟩
    rcases lk with ⟨k,_⟩|⟨_,a',ha',hcell⟩
    ·rcases kx with q|q<;>(rw[k] at q;cases q)
    ·have e:=dk _ _ ha
     dsimp only at e
     rw[ha'] at e;cases e
     exact hcell.keeps hk
 ·obtain⟨v,z⟩:=I.cell x a (dk x a e)
  exact⟨v,z.keeps hk⟩
 ·have hp:p=(D,ob):=by
   have:p∈[(D,ob)]:=hp
   simpa using this
  subst hp
  refine⟨FI,I.aZ.fresh hD,Dj,fun z =>?_,JP⟩
  have z:D∈i8 X.stack:=z
  rcases Um.mp (I.nv D z) with q|q
  ·exact oy I.lt hD q
  ·exact I.Eg hD q
 ·show(Jq Nc.length none++cL σ js).length=(Nc++Fc).length
  unfold cL
  rw[Jc,Jc,Uy,Ja,c.lens]
end
def Aw (X:Cx)(ifs:List Expr)(t:TT):Prop:=
 ∀ ⦃pins:List (Addr×Obj)⦄ (s:Shared) (σ:St) (H:Hp) (Q:Bool->Hp->Prop),Inv X pins σ H s->t σ H Q->wpAny (model X.prog X.w) X.A (nc ifs X.env) (TP X pins σ Q) X.xe s
def kN:TT:=fun _ H Q=>Q true H
theorem br {X:Cx}:Aw X [] kN:=fun _ _ _ H _ I h=>wpAny_tests_nil ⟨H,I,h⟩
theorem cO {X:Cx}{c:Expr}{t:TT}(h:PT X c t):Aw X [c] t:=fun pins s σ H Q I hw=>wpAny_tests_one (h s σ H Q I hw)
def sG (J:It)(n:Nat)(js:List Nat)(g:TG)(tc:TT)(te:TE)(σ:St)(H1:Hp)(fin:List V->Hp->Prop):Prop:=
 ∃W:Nat->Nat->List V->Hp->Prop,(∃m,W 0 m [] H1)/\∀i m ys H,W i m ys H ->
  (J.stop i H/\fin ys H) ∨
  (J.go i H/\ys.length<sizeLine/\∀x H',J.yld i H x H'->g x (Jq n none++cL σ js) H' fun σ2 H2=>tc σ2 H2 fun b H3=>
   if b=true then te σ2 H3 fun y H4=>∃m',m'<m/\W (i+1) m' (ys++[y]) H4 else ∃m',m'<m/\W (i+1) m' ys H3)
def dU (wi:TI)(n:Nat)(js:List Nat)(g:TG)(tc:TT)(te:TE):TE:=fun σ H Q=>wi σ H fun J H1=>
 sG J n js g tc te σ H1 fun ys H2=>∀p,H2 p=none->Q (.ref p) (upd H2 p (.lst ys))
def Gk (n:Nat)(g:TG):Prop:=∀x σ H Q,g x σ H Q->g x σ H fun σ' H'=>Q σ' H'/\(∀j,n<=j -> σ'[j]? = σ[j]?) /\ σ'.length = σ.length
def Hf (n:Nat)(g:sN):Prop:=∀x σ H Q,g x σ H Q->g x σ H fun σ' H'=>Q σ' H'/\(∀j,n<=j -> σ'[j]? = σ[j]?) /\ σ'.length = σ.length
theorem aA {n i:Nat}(h:i<n:=by decide):Gk n (di i):=fun x σ H Q q=>⟨q,fun j hj=>List.getElem?_set_ne (by omega),List.length_set⟩
theorem cY {n:Nat}:Hf n qV:=fun x σ H Q q=>⟨q.1,q.2,fun _ _=>rfl,rfl⟩
theorem aP {n:Nat}{t:TG}{u:sN}(h1:Gk n t)(h2:Hf n u)(mt:∀x σ H Q Q',(∀a b,Q a b->Q' a b)->t x σ H Q->t x σ H Q')(mu:∀x σ H Q Q',(∀a b,Q a b->Q' a b)->u x σ H Q->u x σ H Q'):Hf n (gw t u):=fun x σ H Q q=>by
 obtain⟨v,r,e,q⟩:=q
 refine⟨v,r,e,mt _ _ _ _ _ (fun σ1 H1 z =>?_) (h1 _ _ _ _ q)⟩
 refine ae.el (z) _ ?_
 rintro z k1 l1
 exact mu _ _ _ _ _ (fun σ2 H2 ⟨z2,k2,l2⟩=>⟨z2,fun j hj=>(k2 j hj).trans (k1 j hj),l2.trans l1⟩) (h2 _ _ _ _ z)
theorem dP {K:Jb}{n m:Nat}{t:sN}(h:Hf n t):Gk n (pC K m t):=fun x σ H Q q=>by
 obtain⟨a,xs,e,h1,h2,q⟩:=q
 exact⟨a,xs,e,h1,h2,h _ _ _ _ q⟩
theorem l8 {X:Cx}{elt tg iter:Expr}{ifs:List Expr}{scope:Scope}{pos:Pos}{Nc Fc:List Str}{js:List Nat}{wi:TI}{g:TG}{tc:TT}{te:TE}{use:Option (Value->Sem Unit)}{QV:Value->Shared->Prop}
  (cJ:X.calm=true) (c:dC X scope Nc Fc js) (hi:PI X tg iter wi)
  (hg:∀cl C s H fp,PG (ff X Nc Fc scope cl C s H fp) tg g) (vP:∀cl C s H fp,Aw (ff X Nc Fc scope cl C s H fp) ifs tc) (FO:∀cl C s H fp,PE (ff X Nc Fc scope cl C s H fp) elt te) (gk:Gk Nc.length g)
  {pins:List (Addr×Obj)} {s:Shared} {σ:St} {H:Hp} {fin:List V->Hp->Prop} (I:Inv X pins σ H s)
  (h:wi σ H fun J H1=>sG J Nc.length js g tc te σ H1 fin)
  (behind:∀(C D:Addr) (m:Str->Option Value) (ys:List V) (H2:Hp) (s2:Shared),Inv X pins σ (upd H2 D (.lst ys)) s2->s2.heap.Ns C m->eg X pins (upd H2 D (.lst ys)) C->H2 D=none->fin ys H2->compPost (model X.prog X.w) X.A X.xe use QV (.ref D) C (.ok .next) s2)
  (hs:∀x,foldedSetIterable iter X.env x=pure x) :
  wpAny (model X.prog X.w) X.A (comprehension (.ListComp elt [⟨tg,iter,ifs,0⟩] scope pos) scope X.env (firstIterPos [⟨tg,iter,ifs,0⟩] pos) (newList []) false (eval iter X.env) use) QV X.xe s:=by
 obtain⟨cl,hclos,dk,g6⟩:=iq (scope:=scope) (env:=X.env) fun y hy hf=>I.ok.has y.1 (c.free y hy hf)
 refine wpAny_comprehension_free (use:=use) rfl hs hclos c.kind c.names ?_
 refine aR (hi s σ H _ I h) fun v s1 h1=>aR h1 fun Dk s2 h2 =>?_
 obtain⟨it,fp,tn,J,H2,e,I2,T,bG,f2,W,⟨m0,w0⟩,turn⟩:=h2
 subst e
 refine wpAny_newObj_type (wpAny_newFunctionEnv c.nocell (by intro y hy;simp at hy) (fun h1 hns1 hsb1 =>?_) c.kind)
 dsimp only at hns1 hsb1 ⊢
 generalize hG:s2.heap.push { cls := .type "list",dict:=none,data := .seq ([]:List Value).toArray } = G at hns1 hsb1 ⊢
 have hC:G.objs.size=s2.heap.objs.size+1:=by rw[<-hG,Wx]
 have Dj:s2.heap.objs.size≠G.objs.size:=by rw[hC];exact J8 (Nat.lt_succ_self _)
 have hle:s2.heap.objs.size<=G.objs.size:=by rw[hC];exact Y0 _
 have old:∀b o,s2.heap.get? b=some o->h1.get? b=some o:=fun b o e=>
  hsb1.extBut b o (cq (Jo e) hle) (Je _ (hG▸Je _ e))
 have nK:h1.PlainList s2.heap.objs.size #[]:=⟨_,hsb1.extBut _ _ Dj (Je _ (hG▸Jv _ rfl))⟩
 obtain⟨n0,nK⟩:=nK
 have fo:∀b∈fp,∃o,s2.heap.get? b=some o:=fun b hb=>let ⟨o,e,_⟩:=T.obj 0 _ bG b hb; ⟨o,e⟩
 have lr:∀b∈fp,b<s2.heap.objs.size:=fun b hb=>let ⟨o,e⟩:=fo b hb;Jo e
 let Xc:Cx:=ff X Nc Fc scope cl G.objs.size s2 H2 fp
 let D:Addr:=s2.heap.objs.size
 have fI:∀{pl:List (Addr×Obj)} {H':Hp},(∀p∈pl,p.1=D)->(∀b∈fp,H' b=none)->∀b∈fp,eg Xc pl H' b:=fun{pl H'} hp hn b hb=>by
  refine⟨hn b hb,?_,?_,.inl hb,fun x a e =>?_,fun p hq =>?_⟩
  ·exact cq (lr b hb) hle
  ·exact(ko I2 c dk g6 hle f2 fo).exfs b hb
  ·exact(f2 b hb).2.2.2.2.1 x a (dk _ _ e)
  ·have q:p∈([]:List (Addr×Obj))++pl:=hq
   rw[hp p (by simpa using q)]
   exact oy (lr b hb) (Jd _)
 have loop:∀t1,codeAny (model X.prog X.w) X.A (.compLoop (.ListComp elt [⟨tg,iter,ifs,0⟩] scope pos) 0 (.ref it) (.ref s2.heap.objs.size) (compEnvC scope cl G.objs.size X.env))
   (compPost (model X.prog X.w) X.A X.xe use QV (.ref s2.heap.objs.size) G.objs.size) { s2 with heap:=h1,toks:=t1 }:=by
  intro t1
  refine qQ (fun n s'=>∃i ys H' av k,Inv Xc [(D,{ cls := .type "list",data := .seq av k })] (Jq Nc.length none++cL σ js) H' s'/\Vals ys av.toList/\ys.length<=sizeLine/\tn i s'.heap/\(∀b∈fp,H' b=none)/\W i n ys H') ?_ m0
   ⟨0,[],H2,#[],n0,y6 I2 c dk g6 hle (Jd _) Dj f2 fo old hns1 nK (fun _ z=>nomatch z),.nil,Uq _,T.keep _ _ _ bG (fun b hb o e=>old b o e),fun b hb=>(f2 b hb).1,w0⟩
  intro n s3
  refine ae.go ?_
  rintro i ys H3 av k I3 rv hz cR fr3 w3
  have xT:∀p∈[(D,({ cls := .type "list",data := .seq av k }:Obj))],p.1=D:=fun p hp=>congrArg Prod.fst (Jg.mp hp)
  rcases turn i n ys H3 w3 with ⟨stop,qn⟩|⟨go,cc,step⟩
  ·refine aR (T.done Xc rfl rfl rfl cJ i _ s3 _ H3 fN I3 (fI xT fr3) cR stop) fun r s4 hz_ =>?_
   refine ae.el hz_ _ ?_
   clear hz_
   rintro hr I4
   subst hr
   show compPost _ _ _ _ _ _ _ _ _
   obtain⟨hDo,yR,hDne,hDfs,_⟩:=I4.pin (D,_) (Jk _ Jn)
   have Ls:D≠G.objs.size:=Dj
   refine ae.el (I4.loc) _ ?_
   rintro mC hmC _
   have D5:H3 G.objs.size=none:=I4.free
   have NG:∀b o,s2.heap.get? b=some o->b≠D:=fun b o e=>J8 (Jo e)
   have u:Un (i8 X.stack) fp H2 H3 s2.heap s4.heap:=I4.base
   have Cd:H2 D=none:=I2.aZ.fresh (Jd _)
   have u':Un (i8 X.stack) fp H2 (upd H3 D (.lst ys)) s2.heap s4.heap:=
    ⟨u.keep,u.slot,fun b o e n hx=>by rw[aq (NG b o e)];exact u.free b o e n hx,u.there,
      fun b xs e=>by rw[aq (aj e Cd)];exact u.fU b xs e,fun b o xs e=>by rw[aq (aj e Cd)];exact u.eV b o xs e,
      fun b ps e=>by rw[aq (aj e Cd)];exact u.gF b ps e⟩
   have xo:eK X.prog X.w (upd H3 D (.lst ys)) s4.heap:=I4.aZ.adopt yR ⟨hz,av.toList,k,rv,by simpa using hDo⟩
   have qo:∀b∈fp,(b∈X.ex∨X.s₀.heap.objs.size<=b)/\b≠X.env.locals/\(∀x c,X.env.cells.lookup x=some c->c≠b)/\∀p∈X.pn++pins,p.1≠b:=fun b hb=>
    ⟨(f2 b hb).2.2.2.1,(f2 b hb).2.1,(f2 b hb).2.2.2.2.1,(f2 b hb).2.2.2.2.2⟩
   have Ek:s4.os=s2.os:=I4.os
   have J4:Inv X pins σ (upd H3 D (.lst ys)) s4:=I2.pF (H':=upd H3 D (.lst ys)) Ek u' xo I4.bare qo
   refine behind G.objs.size D mC ys H3 s4 J4 hmC (I2.kj hle ?_) yR qn
   rw[aq (Ne.symm Ls)]
   exact D5
  ·refine aR (T.item Xc rfl rfl rfl cJ i _ s3 _ H3 fN I3 (fI xT fr3) cR go) fun r s4 hz_ =>?_
   refine ae.el hz_ _ ?_
   clear hz_
   rintro u hr h4
   subst hr
   show wpAny _ _ (letOwnedTupleGo tg (.ref it) u) _ _ _
   refine aR h4 fun _ s5 hz_ =>?_
   refine ae.el hz_ _ ?_
   clear hz_
   rintro x H5 I5 r5 y5 df fr5
   have yC:=I5.pinned (fI xT fr5) (T.obj _ _ df)
   refine aR (hg cl G.objs.size s2 H2 fp s5 _ H5 x u _ yC r5 (gk _ _ _ _ (step x H5 y5))) fun _ s6 hz_ =>?_
   refine ae.el hz_ _ ?_
   clear hz_
   rintro σ6 H6 I6 q6 kσ kl
   refine aR (vP cl G.objs.size s2 H2 fp s6 σ6 H6 _ I6 q6) fun b s7 hz_ =>?_
   refine ae.el hz_ _ ?_
   clear hz_
   rintro H7 I7 q7
   have later:∀{σ':St} {H':Hp} {s':Shared},Inv Xc ([(D,({ cls := .type "list",data := .seq av k }:Obj))]++dS fp s5.heap) σ' H' s'->tn (i+1) s'.heap/\∀b∈fp,H' b=none:=fun{σ' H' s'} Iz=>by
    refine⟨T.keep _ _ _ df fun b hb o e=>(Iz.pin (b,o) (Jk _ (Jk _ (bJ hb e)))).1,fun b hb =>?_⟩
    refine ae.el (T.obj _ _ df b hb) _ ?_
    rintro o e d
    exact(Iz.pin (b,o) (Jk _ (Jk _ (bJ hb e)))).2.1
   have back:∀{pl:List (Addr×Obj)} {H':Hp} {s':Shared},Inv Xc pl σ6 H' s'->Inv Xc pl (Jq Nc.length none++cL σ js) H' s':=fun{pl H' s'} Iz=>by
    refine Iz.weak (by rw[<-kl]) fun j v hj =>?_
    by_cases hn:j<Nc.length
    ·rw[Ut (by simpa using hn),Yz] at hj
     split at hj<;>cases hj
    ·rw[kσ j (by omega)];exact hj
   cases b with
   | false=>
    rw[if_neg Jm] at q7 ⊢
    refine ae.el (q7) _ ?_
    rintro m' rN w7
    obtain⟨l1,l2⟩:=later I7
    exact⟨m',rN,i+1,ys,H7,av,k,back I7.cW,rv,hz,l1,l2,w7⟩
   | true=>
    rw[if_pos rfl] at q7 ⊢
    refine aR (FO cl G.objs.size s2 H2 fp s7 σ6 H7 _ I7 q7) fun yv s8 hz_ =>?_
    refine ae.el hz_ _ ?_
    clear hz_
    rintro y H8 I8 r8 q8
    refine ae.el (q8) _ ?_
    rintro m' rN w8
    obtain⟨hDo,yR,hDne,hDfs,_⟩:=I8.pin (D,_) (Jk _ (Ud _ Jn))
    obtain⟨l1,l2⟩:=later I8
    have hits:av.size=ys.length:=by
     have e1:=rv.length
     simp -iota only [Jw] at e1
     omega
    refine wpAny_list_append_plain (hsz:=by omega) ⟨k,hDo⟩ fun h9 hl9 hs9 =>?_
    obtain⟨k9,hD9⟩:=hl9
    have HV:∀p∈dS fp s5.heap,p.1≠D:=fun p hp=>by
     obtain⟨hb,_⟩:=mi hp
     exact cq (lr _ hb) (Jd _)
    have Pa:Inv Xc (dS fp s5.heap) σ6 H8 s8:=I8.jV fun p hp=>I8.pin p (Jk _ (Jk _ hp))
    have I9:Inv Xc (dS fp s5.heap) σ6 H8 { s8 with heap:=h9,toks:=s8.toks }:=Pa.turned (it:=D) (fun b o hb e=>hs9.extBut b o hb e) yR Dj (.inr (Jd _))
     (fun x a e z=>by
      obtain⟨v,q⟩:=I2.cell x a (dk _ _ e)
      exact cq q.lt (Jd _) z) (fun p hp=>HV p (by
       have hp:p∈([]:List (Addr×Obj))++dS fp s5.heap:=hp
       simpa using hp))
    obtain⟨Gv,fr9⟩:tn (i+1) h9/\∀b∈fp,H8 b=none:=by
     refine⟨T.keep _ _ _ l1 fun b hb o e=>hs9.extBut b o ?_ e,l2⟩
     exact cq (lr _ hb) (Jd _)
    refine⟨m',rN,i+1,ys++[y],H8,av.push yv,k9,back (I9.jV fun p hp =>?_),?_,?_,Gv,fr9,w8⟩
    ·cases Jg.mp hp
     exact⟨hD9,yR,hDne,hDfs,fun _ z=>nomatch z⟩
    ·rw[Yl]
     exact rv.append (.cons r8 .nil)
    ·rw[Jc,List.length_singleton];omega
 exact codeAny_compStart_list (loop _) (T.self _ 0 _ _ _ (T.keep _ _ _ bG fun b hb o e=>old b o e) (loop _))
theorem bC {X:Cx}{elt tg iter:Expr}{ifs:List Expr}{scope:Scope}{pos:Pos}{Nc Fc:List Str}{js:List Nat}{wi:TI}{g:TG}{tc:TT}{te:TE}
  (cJ:X.calm=true) (c:dC X scope Nc Fc js) (hi:PI X tg iter wi) (gk:Gk Nc.length g)
  (hg:∀cl C s H fp,PG (ff X Nc Fc scope cl C s H fp) tg g) (vP:∀cl C s H fp,Aw (ff X Nc Fc scope cl C s H fp) ifs tc) (FO:∀cl C s H fp,PE (ff X Nc Fc scope cl C s H fp) elt te)
  (hs:∀x,foldedSetIterable iter X.env x=pure x:=by intro _;rfl) :
  PE X (.ListComp elt [⟨tg,iter,ifs,0⟩] scope pos) (dU wi Nc.length js g tc te):=by
 intro pins s σ H Q I h
 rw[eval_ListComp]
 refine l8 (use:=none) cJ c hi hg vP FO gk I h (fun C D m ys H2 s2 I2 hm hC hD q =>?_) hs
 refine⟨m,hm,fun h' hs' =>?_⟩
 refine⟨.ref D,_,I2.turned (it:=C) (t':=s2.toks) (fun b o hb e=>hs'.extBut b o hb e) hC.1 (hC.2.1) hC.2.2.2.1 hC.2.2.2.2.1 hC.2.2.2.2.2,rfl,q D hD⟩
theorem bw {X:Cx}{i:Nat}{y:Str}{elt tg iter:Expr}{ifs:List Expr}{scope:Scope}{pos pos' py:Pos}{Nc Fc:List Str}{js:List Nat}{wi:TI}{g:TG}{tc:TT}{te:TE}(hN:X.N.Nodup)(hy:X.N[i]? = some y)(hl:Loc X.env.scope y)
  (cJ:X.calm=true) (c:dC X scope Nc Fc js) (hi:PI X tg iter wi) (gk:Gk Nc.length g)
  (hg:∀cl C s H fp,PG (ff X Nc Fc scope cl C s H fp) tg g) (vP:∀cl C s H fp,Aw (ff X Nc Fc scope cl C s H fp) ifs tc) (FO:∀cl C s H fp,PE (ff X Nc Fc scope cl C s H fp) elt te)
  (JO:swapsWith (.ListComp elt [⟨tg,iter,ifs,0⟩] scope pos) (some (.Name y py)) pos'.line X.env=pure true:=by rfl)
  (hs:∀x,foldedSetIterable iter X.env x=pure x:=by intro _;rfl)
  (hf:X.fn y=true∨X.env.scope.names.lookup y=some .local:=by first|exact .inl rfl|exact .inr rfl|assumption) :
  PS X (.Assign [.Name y py] (.ListComp elt [⟨tg,iter,ifs,0⟩] scope pos) pos') (u3 (dU wi Nc.length js g tc te) (di i)):=by
 intro pins s σ H E I h
 rw[exec_Assign_Name_used _ _ _ _ JO]
 refine wpAny_bind (wpAny_standAt (wpAny_bind ?_))
 show wpAny _ X.A (do let _ <-comprehension (.ListComp elt [⟨tg,iter,ifs,0⟩] scope pos) scope X.env _ (newList []) false (eval iter X.env) (some (assign (.Name y py) X.env))) _ _ s
 refine wpAny_bind (aR (l8 (use:=some (assign (.Name y py) X.env)) (QV:=fun _ s'=>SP X pins E .next s') cJ c hi hg vP FO gk I h (fun C D m ys H2 s2 I2 hm hC hD q =>?_) hs) fun _ s' hq=>wpAny_pure (wpAny_pure hq))
 show wpAny _ _ (assign (.Name y py) X.env (.ref D)) _ _ s2
 refine wpAny_assign_Name (jb I2 hN hy hl (v := .ref D) rfl (fun s3 I3 ⟨a,u9,ha⟩=>?_) hf)
 have jH:C≠a:=by
  rcases ha with e|e
  ·rw[e];exact hC.2.1
  ·exact fun z=>hC.2.2.2.2.1 _ _ e z.symm
 refine⟨m,hm.at' fun o e=>u9.extBut _ o jH e,fun h' hs' =>?_⟩
 exact⟨_,_,I3.turned (it:=C) (t':=s3.toks) (fun b o hb e=>hs'.extBut b o hb e) hC.1 hC.2.1 hC.2.2.2.1 hC.2.2.2.2.1 hC.2.2.2.2.2,q D hD⟩
section
variable {X:Cx}{pins:List (Addr×Obj)}{σ:St}{H:Hp}{s:Shared}{p:Addr}{ys:List V}
theorem mf {A:Around}(hh:A.handled=none)(I:Inv X pins σ H s)(hq:aE X.K H p ys){R:Value->Shared->Prop}{E:Value->Shared->Prop}
  (h:∀(av:List Value) (it:Addr) (s2:Shared),Vals ys av->av.length<=sizeLine ->
   Walks X.prog X.w A it [it,p] [it] av.toArray.size (fun i v=>av.toArray[i]? = some v) (fun i h=>h.IsListIter it p i/\h.IsList p av.toArray)->(s2.heap.IsListIter it p 0/\s2.heap.IsList p av.toArray)->(∀b∈[it,p],b<s2.heap.objs.size) ->
   (∀h' tk,(∀b o,b∉[it]->s2.heap.get? b=some o->h'.get? b=some o)->Inv X pins σ H { s2 with heap:=h',toks:=tk })->R (.ref it) s2) :
  wpAny (model X.prog X.w) A (pyIter (.ref p)) R E s:=by
 obtain⟨av,rv,pl,hz⟩:=I.list hq
 have hl:=pl.isList
 have hp:p<s.heap.objs.size:=by obtain⟨o,e,_⟩:=hl;exact Jo e
 refine wpAny_pyIter_list hl ?_
 refine h av s.heap.objs.size _ rv (by have:=rv.length;omega) (Walks.list hh _ p (J8 hp) av.toArray) ⟨⟨_,Jv _ rfl,rfl,rfl⟩,hl.push _⟩ (fun b hb =>?_) fun h' tk hk =>?_
 ·show b<(s.heap.push _).objs.size
  rw[Wx]
  rcases Um.mp hb with rfl|hb
  ·exact Nat.lt_succ_self _
  ·rw[Jg.mp hb];exact Wr hp
 ·exact I.kept (t':=tk) fun b o e=>hk b o (fun z=>cq (Jo e) (Jd _) (Jg.mp z)) (Je _ e)
theorem fj {ys:List V}{av:List Value}(r:Vals ys av){i:Nat}{v:Value}(e:av.toArray[i]? = some v):∃y,ys[i]? = some y/\RelV y v:=by
 have e':av[i]? = some v:=by simpa using e
 have hi:i<av.length:=(Ju.mp e').1
 have hl:=r.length
 obtain⟨u,h1,h2⟩:=r.get (i:=i) (x:=ys[i]'(by omega)) (by simp)
 rw[e'] at h1;cases h1
 exact⟨_,by simp,h2⟩
theorem range_all (bs:List Bool):(Wf bs.length).all (fun i=>bs.getD i false)=bs.all id:=by
 induction bs with
 | nil=>rfl
 | cons b r ih=>
  rw[Jx,List.range_succ_eq_map,List.all_cons,List.all_map,List.all_cons,<-ih]
  rfl
theorem vJ {A:Around}{bs:List Bool}{av:List Value}(r:Vals (bs.map V.bl) av):TruthOf X.prog X.w A (fun i v=>av.toArray[i]? = some v) (fun i=>bs.getD i false):=by
 intro i v s Q E e hQ
 obtain⟨y,h1,h2⟩:=fj r e
 rw[Jj] at h1
 cases q:bs[i]? with
 | none=>rw[q] at h1;cases h1
 | some b=>
  rw[q] at h1;cases h1
  cases h2
  have:bs.getD i false=b:=by simp[List.getD,q]
  have hQ:Q (bs.getD i false) s:=hQ
  rw[this] at hQ
  exact wpAny_pure hQ
theorem oG (hc:X.calm=true):cn X (.builtin "all") (fun xs H Q=>∃(p:Addr) (bs:List Bool),xs=[.ref p]/\aE X.K H p (bs.map V.bl)/\Q (.bl (bs.all id)) H):=by
 intro pins s σ H xs us Q I r h
 obtain⟨p,bs,rfl,hq,q⟩:=h
 obtain⟨u,rfl,ru⟩:=vals1 r
 cases ru
 refine call_all_walk (mf (A:=X.A.in1) (I.ok.hd hc) I hq fun av it s2 rv hz W st cc hI =>?_)
 refine⟨it,_,_,_,_,_,fun i=>bs.getD i false,rfl,W,st,vJ rv,fun h' tk hk =>?_⟩
 have hl:av.toArray.size=bs.length:=by have:=rv.length;simp at this ⊢;omega
 rw[hl,range_all]
 exact⟨.bl _,H,hI h' tk hk,rfl,q⟩
theorem int_at {ns:List Int}{av:List Value}(r:Vals (ns.map V.int) av){i:Nat}{v:Value}(e:av.toArray[i]? = some v):∃n t,ns[i]? = some n/\v = .int n t:=by
 obtain⟨y,h1,h2⟩:=fj r e
 rw[Jj] at h1
 cases q:ns[i]? with
 | none=>rw[q] at h1;cases h1
 | some b=>
  rw[q] at h1;cases h1
  obtain⟨t,rfl⟩:=h2
  exact⟨b,t,rfl,rfl⟩
theorem ly (hc:X.calm=true):cn X (.builtin "max") (fun xs H Q=>∃(p:Addr) (ns:List Int),xs=[.ref p]/\aE X.K H p (ns.map V.int)/\ns≠[]/\∀M,M∈ns->(∀a∈ns,a<=M)->Q (.int M) H):=by
 intro pins s σ H xs us Q I r h
 obtain⟨p,ns,rfl,hq,jH,q⟩:=h
 obtain⟨u,rfl,ru⟩:=vals1 r
 cases ru
 have MB:0<ns.length:=U1.mpr jH
 refine call_max_walk (mf (A:=X.A.in1) (I.ok.hd hc) I hq fun av it s2 rv hz W st cc hI =>?_)
 have hl:av.toArray.size=ns.length:=by have:=rv.length;simp at this ⊢;omega
 refine⟨it,_,_,_,_,_,fun i j=>decide (ns.getD i 0>ns.getD j 0),rfl,W,st,cc,by omega,?_,fun v h' tk e hk =>?_⟩
 ·refine CmpOf.ints_gt (fun i=>ns.getD i 0) fun{i v} e =>?_
  obtain⟨n,t,h1,rfl⟩:=int_at rv e
  exact⟨t,by simp[List.getD,h1]⟩
 ·obtain⟨n,t,h1,rfl⟩:=int_at rv e
  obtain⟨b1,b2⟩:=argBest_gt (fun i=>ns.getD i 0) (av.toArray.size-1)
  refine⟨.int n,H,hI h' tk hk,⟨_,rfl⟩,q n (Wo h1) fun a ha =>?_⟩
  obtain⟨j,hj⟩:=List.getElem?_of_mem ha
  have Fv:j<ns.length:=(Ju.mp hj).1
  have z:=b2 j (by omega)
  have e1:ns.getD j 0=a:=by simp[List.getD,hj]
  have e2:ns.getD (argBest (fun i j=>decide (ns.getD i 0>ns.getD j 0)) (av.toArray.size-1)) 0=n:=by rw[Wj,h1];rfl
  rw[<-e1,<-e2]
  exact z
theorem HF (K:Jb)(hc:X.calm=true)(hK:X.K=K:=by rfl):cn X (.builtin "max") (fun xs H Q=>∃(p:Addr) (ns:List Int),xs=[.ref p]/\aE K H p (ns.map V.int)/\ns≠[]/\∀M,M∈ns->(∀a∈ns,a<=M)->Q (.int M) H):=by subst hK;exact ly hc
theorem vW (K:Jb)(hc:X.calm=true)(hK:X.K=K:=by rfl):cn X (.builtin "all") (fun xs H Q=>∃(p:Addr) (bs:List Bool),xs=[.ref p]/\aE K H p (bs.map V.bl)/\Q (.bl (bs.all id)) H):=by subst hK;exact oG hc
theorem g8:Bm X "str.startswith" (fun x vs H Q=>∃a b,x = .str a/\vs=[.str b]/\Q (.bl (Txt.startswith a b)) H):=by
 intro pins s σ H x vs v us Q I rx rv h
 obtain⟨a,b,rfl,rfl,q⟩:=h
 obtain⟨t,rfl⟩:=rx
 obtain⟨u,rfl,t',rfl⟩:=rv.one
 exact SC.startswith ⟨.bl _,H,I,rfl,q⟩
theorem vV:∀{xs:List Str} {av:List Value},Vals (xs.map V.str) av->StrsAre av xs:=by
 intro xs av r
 induction xs generalizing av with
 | nil=>cases r;exact StrsAre.nil
 | cons x xs ih=>
  cases r with
  | cons r1 r2=>
   obtain⟨t,rfl⟩:=r1
   exact StrsAre.cons x t (ih r2)
theorem zO:Bm X "str.join" (fun x vs H Q=>∃(sep:Str) (p:Addr) (xs:List Str),x = .str sep/\vs=[.ref p]/\aE X.K H p (xs.map V.str)/\(xs.map (·.length)).sum+xs.length*sep.length<=16777216/\Q (.str (Txt.join sep xs)) H):=by
 intro pins s σ H x vs v us Q I rx rv h
 obtain⟨sep,p,xs,rfl,rfl,hq,hz,q⟩:=h
 obtain⟨t,rfl⟩:=rx
 obtain⟨u,rfl,ru⟩:=rv.one
 cases ru
 obtain⟨av,r',pl,_⟩:=I.list hq
 exact join_list pl.isList (vV r') hz fun t' k=>⟨.str _,H,I.tok _,⟨_,rfl⟩,q⟩
end
mutual
def Den (K:Jb)(H:Hp):PyData->V->Prop
 | .none,v=>v = .non
 | .bool b,v=>v = .bl b
 | .int i,v=>v = .int i
 | .str x,v=>v = .str x
 | .list ds,v=>ck fun a vs=>v = .ref a/\aE K H a vs/\aL K H ds vs
 | .tuple ds,v=>ck fun a vs=>v = .ref a/\d9 K H a vs/\aL K H ds vs
 | .dict _,_=>False
def aL (K:Jb)(H:Hp):List PyData->List V->Prop
 | [],vs=>vs=[]
 | d::ds,vs=>ck fun v r=>vs=v::r/\Den K H d v/\aL K H ds r
end
theorem aw.rJ {K:Jb}{H H':Hp}{a:Addr}{xs:List V}(e:aw H H')(h:d9 K H a xs):d9 K H' a xs:=by
 rcases h with (h|⟨o,h⟩)|h
 ·exact .inl (.inl (e _ _ h))
 ·exact .inl (.inr ⟨o,e _ _ h⟩)
 ·exact .inr h
mutual
theorem Den.same {K:Jb}{H H':Hp}(e:aw H H'):∀{d:PyData} {v:V},Den K H d v->Den K H' d v
 | .none,_,h=>by unfold Den at h ⊢;exact h
 | .bool _,_,h=>by unfold Den at h ⊢;exact h
 | .int _,_,h=>by unfold Den at h ⊢;exact h
 | .str _,_,h=>by unfold Den at h ⊢;exact h
 | .list ds,_,h=>by
  unfold Den at h ⊢
  obtain⟨a,vs,h1,h2,h3⟩:=h
  exact⟨a,vs,h1,e.seq h2,aL.same e h3⟩
 | .tuple ds,_,h=>by
  unfold Den at h ⊢
  obtain⟨a,vs,h1,h2,h3⟩:=h
  exact⟨a,vs,h1,e.rJ h2,aL.same e h3⟩
 | .dict _,_,h=>by unfold Den at h;exact h.elim
theorem aL.same {K:Jb}{H H':Hp}(e:aw H H'):∀{ds:List PyData} {vs:List V},aL K H ds vs->aL K H' ds vs
 | [],_,h=>by unfold aL at h ⊢;exact h
 | d::ds,_,h=>by
  unfold aL at h ⊢
  obtain⟨v,r,h1,h2,h3⟩:=h
  exact⟨v,r,h1,Den.same e h2,aL.same e h3⟩
end
mutual
theorem Den.reads {X:Cx}{pins:List (Addr×Obj)}{σ:St}{H:Hp}{s:Shared}(I:Inv X pins σ H s):∀{d:PyData} {v:V} {u:Value},Den X.K H d v->RelV v u->∃as,Reads s.heap u d as
 | .none,_,_,h,r=>by unfold Den at h;subst h;cases r;exact⟨_,.none⟩
 | .bool _,_,_,h,r=>by unfold Den at h;subst h;cases r;exact⟨_,.bool _⟩
 | .int _,_,_,h,r=>by unfold Den at h;subst h;obtain⟨t,rfl⟩:=r;exact⟨_,.int _ _⟩
 | .str _,_,_,h,r=>by unfold Den at h;subst h;obtain⟨t,rfl⟩:=r;exact⟨_,.str _ _⟩
 | .list ds,_,_,h,r=>by
  unfold Den at h
  obtain⟨a,vs,rfl,h2,h3⟩:=h
  cases r
  obtain⟨av,rv,⟨o,n,e1,e2,_,e4⟩,_⟩:=I.list h2
  obtain⟨as,q⟩:=aL.reads I h3 rv
  exact⟨_,.list e1 e2 e4 (by simpa using q)⟩
 | .tuple ds,_,_,h,r=>by
  unfold Den at h
  obtain⟨a,vs,rfl,h2,h3⟩:=h
  cases r
  obtain⟨av,rv,⟨o,e1,e2,n,e4⟩,_⟩:=I.tuple h2
  obtain⟨as,q⟩:=aL.reads I h3 rv
  exact⟨_,.tuple e1 e2 e4 (by simpa using q)⟩
 | .dict _,_,_,h,_=>by unfold Den at h;exact h.elim
theorem aL.reads {X:Cx}{pins:List (Addr×Obj)}{σ:St}{H:Hp}{s:Shared}(I:Inv X pins σ H s):∀{ds:List PyData} {vs:List V} {us:List Value},aL X.K H ds vs->Vals vs us->∃as,ReadsAll s.heap us ds as
 | [],_,_,h,r=>by unfold aL at h;subst h;cases r;exact⟨_,.nil⟩
 | d::ds,_,_,h,r=>by
  unfold aL at h
  obtain⟨v,q,rfl,h2,h3⟩:=h
  cases r with
  | cons r1 r2=>
   obtain⟨as,q1⟩:=Den.reads I h2 r1
   obtain⟨bs,q2⟩:=aL.reads I h3 r2
   exact⟨_,.cons q1 q2⟩
end
section
variable {X:Cx}
open PySem.SeqAt in
theorem BP (hu:X.A.units+64<cLine):dB X (compareOp .Eq) (fun x y H Q=>∃d e,Den X.K H d x/\Den X.K H e y/\shaped d=true/\shaped e=true/\Q (.bl (PyData.eqv d e)) H):=by
 intro pins s σ H x y v u Q I rx ry h
 obtain⟨d,e,hd,he,sd,se,q⟩:=h
 obtain⟨as,r1⟩:=hd.reads I rx
 obtain⟨bs,r2⟩:=he.reads I ry
 exact eq_dataH r1 r2 sd se hu ⟨.bl _,H,I,rfl,q⟩
open PySem.SeqAt in
theorem Bd (hu:X.A.units+64<cLine):dB X (compareOp .NotEq) (fun x y H Q=>∃d e,Den X.K H d x/\Den X.K H e y/\shaped d=true/\shaped e=true/\Q (.bl (!PyData.eqv d e)) H):=by
 intro pins s σ H x y v u Q I rx ry h
 obtain⟨d,e,hd,he,sd,se,q⟩:=h
 obtain⟨as,r1⟩:=hd.reads I rx
 obtain⟨bs,r2⟩:=he.reads I ry
 exact ne_dataH r1 r2 sd se hu ⟨.bl _,H,I,rfl,q⟩
theorem Bv:dB X (compareOp .Is) (fun x y H Q=>∃a b,x = .bl a/\y = .bl b/\Q (.bl (decide (a=b))) H):=by
 intro pins s σ H x y v u Q I rx ry h
 obtain⟨a,b,rfl,rfl,q⟩:=h
 cases rx;cases ry
 refine wpAny_is_plain rfl (aV I q ?_)
 cases a<;>cases b<;>rfl
theorem uw:dB X (compareOp .IsNot) (fun x y H Q=>∃a b,x = .bl a/\y = .bl b/\Q (.bl (!decide (a=b))) H):=by
 intro pins s σ H x y v u Q I rx ry h
 obtain⟨a,b,rfl,rfl,q⟩:=h
 cases rx;cases ry
 refine wpAny_isNot_plain rfl (aV I q ?_)
 cases a<;>cases b<;>rfl
theorem wA:cn X (.builtin "isinstance") (fun xs H Q=>∃x T t b,xs=[x,.ty T]/\i6 X.K H x t/\Y1 X.K t (.type T)=some b/\Q (.bl b) H):=by
 intro pins s σ H xs us Q I r h
 obtain⟨x,T,t,b,rfl,ty,e,q⟩:=h
 obtain⟨u,w',rfl,r1,r2⟩:=vals2 r
 cases r2
 exact tM I r1 ty e fun tk=>⟨.bl b,H,I.tok _,rfl,q⟩
theorem Bu:xX X (fun x lo hi H Q=>∃z,x = .str z/\z.length<=sizeLine/\Q (.str (Txt.slice z lo hi)) H):=by
 intro pins s σ H x v vl vu lo hi sl Q I rx hs pl pu q
 obtain⟨z,rfl,hz,q⟩:=q
 obtain⟨t,rfl⟩:=rx
 refine⟨"str",_,F.slot_str_getitem.lookup,typeIs_str _ _ _,?_⟩
 have fin:∀t' k,EP X pins σ Q (.str (Txt.slice z lo hi) t') { s with toks:=k }:=fun t' k=>⟨.str _,H,I.tok _,⟨_,rfl⟩,q⟩
 cases pl with
 | none=>
  cases pu with
  | none=>exact wpAny_getItem_str_slice (l:=none) (u:=none) (st:=none) hs rfl (post_val_or_str ⟨Js (Txt.slice_le z _ _) hz,fin⟩)
  | int j uj=>exact wpAny_getItem_str_slice (l:=none) (u:=some (j,uj)) (st:=none) hs rfl (post_val_or_str ⟨Js (Txt.slice_le z _ _) hz,fin⟩)
 | int i ui=>
  cases pu with
  | none=>exact wpAny_getItem_str_slice (l:=some (i,ui)) (u:=none) (st:=none) hs rfl (post_val_or_str ⟨Js (Txt.slice_le z _ _) hz,fin⟩)
  | int j uj=>exact wpAny_getItem_str_slice (l:=some (i,ui)) (u:=some (j,uj)) (st:=none) hs rfl (post_val_or_str ⟨Js (Txt.slice_le z _ _) hz,fin⟩)
end
section
variable {X:Cx}{pins:List (Addr×Obj)}{σ:St}{H:Hp}{s:Shared}{h':Heap}
theorem Inv.adopt {T:Addr}{o:HO}(I:Inv X pins σ H s)(hT:eg X pins H T)(hex:X.s₀.heap.objs.size<=T)(new:bo X.prog X.w (upd H T o) s.heap T o):Inv X pins σ (upd H T o) s:=
 ⟨I.ok,I.os,I.bare,⟨I.base.keep,I.base.slot,fun b ob e n hx=>by rw[aq (cq (Jo e) hex)];exact I.base.free b ob e n hx,I.base.there,
   fun b xs e=>by rw[aq (aj (I.base.fU b xs e) hT.1)];exact I.base.fU b xs e,fun b ob xs e=>by rw[aq (aj (I.base.eV b ob xs e) hT.1)];exact I.base.eV b ob xs e,
   fun b ps e=>by
    obtain⟨m,q⟩:=I.base.gF b ps e
    exact⟨m,by rw[aq (aj q hT.1)];exact q⟩⟩,
  I.loc,I.cell,by rw[aq (Ne.symm hT.2.1)];exact I.free,fun x c e=>by rw[aq (hT.2.2.2.2.1 x c e)];exact I.freeC x c e,
  fun p hp=>by
   refine ae.el (I.pin p hp) _ ?_
   rintro a b c d f
   exact⟨a,by rw[aq (hT.2.2.2.2.2 p hp)];exact b,c,d,f⟩,I.aZ.adopt hT.1 new,I.len⟩
end
section
variable {X:Cx}
def DI:R2:=fun x y H Q=>(ck fun i j=>x = .int i/\y = .int j/\Q (.int (i+j)) H)∨(∃i j,x = .str i/\y = .str j/\i.length+j.length<=sizeLine/\Q (.str (i++j)) H)∨Du x y H Q
theorem E4:dB X (binaryOp .Add) DI:=CC.or (qN.or C1)
def Fq:R2:=fun x y H Q=>(ck fun i j=>x = .int i/\y = .int j/\rO i j/\Q (.int (i*j)) H)∨Ed x y H Q
theorem DL:dB X (binaryOp .Mult) Fq:=Ct.or B3
structure Fn (P:Program)(w:World)(K:Jb)(mg:Str->Option Value)(base:Heap)(k:Nat)(x:Str)(ps:List Str)(sp:Sp):Prop where
 ex:∃f fd,bM P w K mg base gU k f fd ps sp/\Binds K fd ps []/\PySem.W.keepIn K (.ref f)=true/\mg x=some (.ref f)
theorem Fn.mono {P:Program}{w:World}{K:Jb}{mg:Str->Option Value}{base:Heap}{j k:Nat}{x:Str}{ps:List Str}{sp:Sp}(F:Fn P w K mg base j x ps sp)(h:j<=k):Fn P w K mg base k x ps sp:=by
 refine ae.el (F.ex) _ ?_
 rintro f fd a b c d
 exact⟨f,fd,a.mono h,b,c,d⟩
theorem aY {k:Nat}{x:Str}{ps:List Str}{sp:Sp}{p pos:Pos}{e:Expr}{es:List Expr}{t:TA}(F:Fn X.prog X.w X.K X.mg X.base k x ps sp)(hr:dH k X.A)(hg:Gl X x)
  (ha:PA X (e::es) t) (wF:(x==("__debug__" : Str))=false:=by decide) (he:starEach (e::es) X.env=(false,eval e X.env)::starEach es X.env:=by rfl) (mH:(backTo pos (starEach es X.env)).any (·.1)=false:=by rfl) :
  PE X (.Call (.Name x p) (e::es) [] pos) (AX sp [] E0 t):=by
 refine ae.el (F.ex) _ ?_
 rintro f fd a b c d
 exact yp a hr hg d c b .nil Gi ha wF he mH
end
noncomputable def tJ (pn sn:List (Str×NameKind))(N Fc:List Str)(js:List Nat):Bool:=
 sn.all (fun y=>y.2 != .cell)&&sn.all (fun y=>y.2 != .local||sn.lookup y.1==some .local)&&sn.all (fun y=>y.2 != .free||pn.lookup y.1==some .cell||pn.lookup y.1==some .free)&&js.length==Fc.length &&
 (Wf Fc.length).all fun k=>match Fc[k]?,js[k]? with
  | some x,some j=>sn.lookup x==some .free&&N[j]? == some x
  | _,_=>false
theorem aN {X:Cx}{scope:Scope}{Nc Fc:List Str}{js:List Nat}(hk:scope.kind = .function:=by rfl)(h:tJ X.env.scope.names scope.names X.N Fc js=true:=by rfl):dC X scope Nc Fc js:=by
 unfold tJ at h
 simp -iota only [Ys,Y8,Bool.or_eq_true,bne_iff_ne,beq_iff_eq,ne_eq] at h
 obtain⟨⟨⟨⟨h1,h2⟩,h3⟩,h4⟩,h5⟩:=h
 refine⟨hk,h1,fun y hy hl=>(h2 y hy).resolve_left (fun z=>z hl),fun y hy hf =>?_,fun k x hx =>?_,h4⟩
 ·rcases h3 y hy with (z|z)|z
  ·exact absurd hf z
  ·exact .inl z
  ·exact .inr z
 ·have Oo:k<Fc.length:=(Ju.mp hx).1
  have q:=h5 k (Y9.mpr Oo)
  have hj:k<js.length:=by omega
  rw[hx,Jf hj] at q
  simp only[Ys,beq_iff_eq] at q
  exact⟨q.1,_,Jf hj,q.2⟩
section
variable {X:Cx}
theorem IJ (hu:X.A.units+64<cLine):dB X (compareOp .Eq) (fun x y H Q=>KI x y H Q∨(∃d e,Den X.K H d x/\Den X.K H e y/\SeqAt.shaped d=true/\SeqAt.shaped e=true/\Q (.bl (PyData.eqv d e)) H)):=EM.or (BP hu)
theorem Iu (hu:X.A.units+64<cLine):dB X (compareOp .NotEq) (fun x y H Q=>IK x y H Q∨(∃d e,Den X.K H d x/\Den X.K H e y/\SeqAt.shaped d=true/\SeqAt.shaped e=true/\Q (.bl (!PyData.eqv d e)) H)):=Fu.or (Bd hu)
theorem Ag:dB X (compareOp .Is) (fun x y H Q=>(y = .non/\Q (.bl (decide (x = .non))) H)∨(∃a b,x = .bl a/\y = .bl b/\Q (.bl (decide (a=b))) H)):=Ci.or Bv
theorem jU:dB X (compareOp .IsNot) (fun x y H Q=>(y = .non/\Q (.bl (!decide (x = .non))) H)∨(∃a b,x = .bl a/\y = .bl b/\Q (.bl (!decide (a=b))) H)):=yt.or uw
theorem FP:xX X (fun x lo hi H Q=>Cs X.K x lo hi H Q∨(∃z,x = .str z/\z.length<=sizeLine/\Q (.str (Txt.slice z lo hi)) H)):=yM.or Bu
structure Nm (mg:Str->Option Value):Prop where
 n_len:mg "len" = none
 n_range:mg "range" = none
 n_max:mg "max" = none
 n_min:mg "min" = none
 n_sum:mg "sum" = none
 n_all:mg "all" = none
 n_any:mg "any" = none
 n_list:mg "list" = none
 n_tuple:mg "tuple" = none
 n_int:mg "int" = none
 n_str:mg "str" = none
 n_bool:mg "bool" = none
 n_zip:mg "zip" = none
 n_enumerate:mg "enumerate" = none
 n_isinstance:mg "isinstance" = none
 n_divmod:mg "divmod" = none
end
theorem bF {J:It}{n:Nat}{js:List Nat}{g:TG}{tc:TT}{te:TE}{σ:St}{H1:Hp}{fin:List V->Hp->Prop}(N:Nat)(Pv:Nat->List V->Hp->Prop)(h0:Pv 0 [] H1)
  (go:∀i ys H (Nx:List V->Hp->Prop),i<N->Pv i ys H->(∀ys' H',Pv (i+1) ys' H'->Nx ys' H')->J.go i H/\ys.length<sizeLine /\
   ∀x H',J.yld i H x H'->g x (Jq n none++cL σ js) H' fun σ2 H2=>tc σ2 H2 fun b H3=>if b=true then te σ2 H3 fun y H4=>Nx (ys++[y]) H4 else Nx ys H3)
  (stop:∀ys H,Pv N ys H->J.stop N H/\fin ys H):sG J n js g tc te σ H1 fin:=by
 refine⟨fun i m ys H=>m=N-i/\i<=N/\Pv i ys H,⟨N,by simp,Uq _,h0⟩,?_⟩
 intro i m ys H
 refine ae.go ?_
 rintro rfl hi p
 by_cases cc:i<N
 ·exact .inr (go i ys H (fun ys' H'=>∃m',m'<N-i/\(m'=N-(i+1)/\i+1<=N/\Pv (i+1) ys' H')) cc p fun ys' H' q=>⟨_,by omega,rfl,cc,q⟩)
 ·have e:i=N:=by omega
  subst e
  exact .inl (stop ys H p)
section
variable {X:Cx}(K:Jb)
theorem i9 (hK:X.K=K:=by rfl):yb X (E6 K):=by subst hK;exact Bi
theorem MC (hK:X.K=K:=by rfl):xX X (fun x lo hi H Q=>Cs K x lo hi H Q∨(∃z,x = .str z/\z.length<=sizeLine/\Q (.str (Txt.slice z lo hi)) H)):=by subst hK;exact FP
theorem dv (hK:X.K=K:=by rfl):cn X (.builtin "len") (fun xs H Q=>∃x n,xs=[x]/\B4 K x H n/\Q (.int n) H):=by subst hK;exact ve
theorem xR (hK:X.K=K:=by rfl):Bm X "str.join" (fun x vs H Q=>∃(sep:Str) (p:Addr) (xs:List Str),x = .str sep/\vs=[.ref p]/\aE K H p (xs.map V.str)/\(xs.map (·.length)).sum+xs.length*sep.length<=16777216/\Q (.str (Txt.join sep xs)) H):=by subst hK;exact zO
theorem fV {tg l:Expr}{tl:TE}(hl:PE X l tl)(hK:X.K=K:=by rfl):PI X tg l (wB K tl):=by subst hK;exact zf hl
theorem tupK {pos:Pos}{es:List Expr}{k:Nat}{t:sN}(n:Nat)(hc:X.calm=true)(h:EG X es t)(hn:(assignEach es X.env).length=n:=by rfl)(hR:(assignEach es X.env).findIdx? (·.1)=none:=by rfl)(hK:X.K=K:=by rfl):PG X (.Tuple es k pos) (pC K n t):=by subst hK;exact BI hc h hn hR
theorem oj {o e:Expr}{es:List Expr}{to:TE}{t:TA}{name:Str}{apos fT:Pos}{T id:String}{r:V->List V->Hp->VK->Prop}(pa:PlainAttrs T)(slot:Slot T name id)(Bb:typeOf (.builtin id)=pure (.type "method_descriptor"))(hm:Bm X id r)(ho:PE X o to)(ha:PA X (e::es) t)
  (kq:attributeBase o name X.env (eval o X.env)=eval o X.env:=by rfl)
  (A3:((backTo fT (starEach (e::es) X.env)).all (fun x => !x.1)&&(backToKw fT (keywordEach [] X.env)).all (fun x=>x.1.isSome)
   && decide ((e::es).length+([]:List Keyword).length+(if ([]:List Keyword).isEmpty then 0 else 1)<30))=true:=by rfl)
  (ke:(apos.endLine==fT.line)=true:=by rfl) (hs:starEach (e::es) X.env=(false,eval e X.env)::starEach es X.env:=by rfl) (qK:(backTo fT (starEach es X.env)).any (·.1)=false:=by rfl) (hK:X.K=K:=by rfl) :
  PE X (.Call (.Attribute o name apos) (e::es) [] fT) (ME K T r to t):=by subst hK;exact Es pa slot Bb hm ho ha kq A3 ke hs qK
theorem CL {o:Expr}{to:TE}{name:Str}{apos fT:Pos}{T id:String}{r:V->List V->Hp->VK->Prop}(pa:PlainAttrs T)(slot:Slot T name id)(Bb:typeOf (.builtin id)=pure (.type "method_descriptor"))(hm:Bm X id r)(ho:PE X o to)
  (kq:attributeBase o name X.env (eval o X.env)=eval o X.env:=by rfl) (ke:(apos.endLine==fT.line)=true:=by rfl) (hK:X.K=K:=by rfl):PE X (.Call (.Attribute o name apos) [] [] fT) (EF K T r to):=by subst hK;exact Cb pa slot Bb hm ho kq ke
theorem yc (hu:X.A.units+64<cLine)(hK:X.K=K:=by rfl):dB X (compareOp .Eq) (fun x y H Q=>KI x y H Q∨(∃d e,Den K H d x/\Den K H e y/\SeqAt.shaped d=true/\SeqAt.shaped e=true/\Q (.bl (PyData.eqv d e)) H)):=by subst hK;exact IJ hu
theorem rK (hu:X.A.units+64<cLine)(hK:X.K=K:=by rfl):dB X (compareOp .NotEq) (fun x y H Q=>IK x y H Q∨(∃d e,Den K H d x/\Den K H e y/\SeqAt.shaped d=true/\SeqAt.shaped e=true/\Q (.bl (!PyData.eqv d e)) H)):=by subst hK;exact Iu hu
end
abbrev Keeps (g h:Heap)(c:Addr->Prop):Prop:=∀b o,¬c b->g.get? b=some o->h.get? b=some o
structure we (prog:Program)(w:World)(A:Around)(it S:Addr)(T:String)(fp:Addr->Prop)(n:Nat)(P:Nat->Value->Heap->Prop)(R:Value->Value->Prop)(St:Nat->Heap->Prop):Prop where
 sfp:¬fp S
 ne:it≠S
 ty:∀i h,St i h->∃o,h.get? it=some o/\o.cls = .type T
 self:∀(s:Shared) (Q:Value->Shared->Prop) (E:Value->Shared->Prop),St 0 s.heap->Q (.ref it) s->wpAny (model prog w) A (pyIter (.ref it)) Q E s
 item:∀i (s:Shared) (Q:Option Value->Shared->Prop) (E:Value->Shared->Prop),i<n->St i s.heap->S<s.heap.objs.size ->
  (∀v h' tk,Keeps s.heap h' fp->St (i+1) h'->P i v h'->(∀j u,P j u s.heap->R u v)->Q (some v) { s with heap:=h',toks:=tk })->wpAny (model prog w) A (pyNext (.ref it)) Q E s
 stop:∀(s:Shared) (Q:Option Value->Shared->Prop) (E:Value->Shared->Prop),St n s.heap->S<s.heap.objs.size->(∀h' tk,Keeps s.heap h' fp->Q none { s with heap:=h',toks:=tk })->wpAny (model prog w) A (pyNext (.ref it)) Q E s
 keepS:∀i h h',St i h->Keeps h h' (· = S)->St i h'
 keepP:∀j v h h',P j v h->Keeps h h' (fun b=>fp b∨b=S)->P j v h'
 nolen:typeLookup (.type T) "__len__" = pure none
 nohint:typeLookup (.type T) "__length_hint__" = pure none
 nl:(Value.type T==Value.type "list")=false
 nt:(Value.type T==Value.type "tuple")=false
structure pe (h:Heap)(S:Addr)(i:Nat)(P:Nat->Value->Heap->Prop)(R:Value->Value->Prop)(acc:Array Value)(c:Nat):Prop where
 ob:h.get? S=some { cls := .type "list",data := .seq acc c }
 sz:acc.size=i
 pw:acc.toList.Pairwise R
 all:∀(j:Nat) v,acc[j]? = some v->P j v h
abbrev qE (prog:Program)(w:World)(A:Around)(R:Result->Shared->Prop):Fin->Shared->Prop:=fun fin s'=>match fin with
 | .done f=>R (.ok f) s'
 | .again c'=>c'.quiet=true/\codeAny (model prog w) A c' R s'
section
variable {prog:Program}{w:World}{A:Around}{it S:Addr}{T:String}{fp:Addr->Prop}{n:Nat}{P:Nat->Value->Heap->Prop}{R:Value->Value->Prop}{St:Nat->Heap->Prop}
abbrev j0 (g:Heap)(S:Addr)(fp:Addr->Prop)(n:Nat)(P:Nat->Value->Heap->Prop)(R:Value->Value->Prop)(s:Shared)(Z:Shared->Prop):Prop:=
 ∀h' tk acc c,Keeps g h' (fun b=>fp b∨b=S)->pe h' S n P R acc c->Z { s with heap:=h',toks:=tk }
theorem lU (Fd:we prog w A.in1 it S T fp n P R St)(hn:n<=sizeLine){s:Shared}{Z:Result->Shared->Prop}{res:Value}{g:Heap}(fin:j0 g S fp n P R s (Z (.ok (.ret res)))):
  ∀(k i:Nat) (h:Heap) (tk:Nat) (acc:Array Value) (c:Nat),i+k=n->St i h->pe h S i P R acc c->Keeps g h (fun b=>fp b∨b=S) ->
   codeAny (model prog w) A (.builtin "list.extend.loop" ⟨[.ref S,.ref it,res],[]⟩) Z { s with heap:=h,toks:=tk }
 | 0,i,h,tk,acc,c,hk,hR,G,kp=>by
  have e:i=n:=by omega
  subst e
  refine codeAny_builtin PySem.F.entry_extend_loop ?_
  rw[Around.under_plainId PySem.F.plain_extend_loop _]
  refine wpAny_bind (Fd.stop { s with heap:=h,toks:=tk } _ _ hR (Jo G.ob) fun h' tk' k'=>wpAny_pure ?_)
  exact fin h' tk' acc c (fun b o nb q=>k' b o (fun z=>nb (.inl z)) (kp b o nb q)) ⟨k' _ _ Fd.sfp G.ob,G.sz,G.pw,fun j v e=>Fd.keepP _ _ _ _ (G.all j v e) fun b o nb q=>k' b o (fun z=>nb (.inl z)) q⟩
 | k+1,i,h,tk,acc,c,hk,hR,G,kp=>by
  refine codeAny_builtin PySem.F.entry_extend_loop ?_
  rw[Around.under_plainId PySem.F.plain_extend_loop _]
  refine wpAny_bind (Fd.item i { s with heap:=h,toks:=tk } _ _ (by omega) hR (Jo G.ob) fun v h' tk' k' aD pv rv =>?_)
  have CH:=k' _ _ Fd.sfp G.ob
  have other:Keeps h' (h'.update S (Obj.mapSeq (·.push v))) (· = S):=fun b o nb q=>(Us _ _ (Ne.symm nb)).trans q
  have k2:Keeps h (h'.update S (Obj.mapSeq (·.push v))) (fun b=>fp b∨b=S):=fun b o nb q=>other b o (fun z=>nb (.inr z)) (k' b o (fun z=>nb (.inl z)) q)
  have sz:=G.sz
  refine wpAny_bind (wpAny_updateSeq CH rfl (wpAny_pure ⟨plainId_quiet PySem.F.plain_extend_loop _,?_⟩) (by rw[sz];omega) (by show(acc.push v).size<=sizeLine+1;rw[Wn,sz];omega))
  refine lU Fd hn fin k (i+1) _ tk' (acc.push v) _ (by omega) (Fd.keepS _ _ _ aD other) ⟨Uu _ CH rfl,by rw[Wn,sz],?_,fun j u e =>?_⟩ (fun b o nb q=>k2 b o nb (kp b o nb q))
  ·rw[Yl]
   refine Ue.mpr ⟨G.pw,List.pairwise_singleton _ _,fun a ha b hb =>?_⟩
   obtain⟨j,hj⟩:=Yb.mp ha
   rw[Jg.mp hb]
   exact rv j a (G.all j a (by simpa using hj))
  ·by_cases hj:j<i
   ·rw[Array.getElem?_push_lt (by omega)] at e
    exact Fd.keepP _ _ _ _ (G.all j u (by rw[Ub (by omega)];exact e)) k2
   ·have uY:j=i:=by
     have:=(Y3.mp e).1
     rw[Wn] at this
     omega
    subst uY
    have e':(acc.push v)[acc.size]? = some u:=by rw[sz];exact e
    rw[Array.getElem?_push_size] at e'
    cases e'
    exact Fd.keepP _ _ _ _ pv fun b o nb q=>other b o (fun z=>nb (.inr z)) q
theorem oo (Fd:we prog w A.in1 it S T fp n P R St)(hn:n<=sizeLine){s:Shared}{Z:Result->Shared->Prop}{res:Value}{c₀:Nat}(hR:St 0 s.heap)(hS:s.heap.get? S=some { cls := .type "list",data := .seq #[] c₀ })
  (fin:j0 s.heap S fp n P R s (Z (.ok (.ret res)))) :
  wpAny (model prog w) A.in1 (Builtin.List.listExtendWith (.ref S) (.ref it) res) (qE prog w A Z) (fun e s'=>Z (.error e) s') s:=by
 have go:∀(h:Heap) (c tk:Nat),Keeps s.heap h (· = S)->h.get? S=some { cls := .type "list",data := .seq #[] c } -> codeAny (model prog w) A (.builtin "list.extend.loop" ⟨[.ref S,.ref it,res],[]⟩) Z { s with heap:=h,toks:=tk }:=
  fun h c tk k o=>lU Fd hn fin n 0 h tk #[] c (by omega) (Fd.keepS _ _ _ hR k) ⟨o,rfl,.nil,fun j v e=>by simp at e⟩ fun b o nb q=>k b o (fun z=>nb (.inr z)) q
 obtain⟨oi,hoi,hci⟩:=Fd.ty 0 _ hR
 have hT:s.TypeIs (.ref it) T:=⟨oi,hoi,hci⟩
 have xc:Builtin.List.listSameRef (.ref S) (.ref it)=false:=by simp[Builtin.List.listSameRef,Ne.symm Fd.ne]
 unfold Builtin.List.listExtendWith
 refine wpAny_bind (wpAny_typeOf hT ?_)
 simp only[xc,Fd.nl,Fd.nt,Bool.or_false,Ua,if_false]
 refine wpAny_bind (Fd.self s _ _ hR ?_)
 have hint:∀(Q:Bool->Shared->Prop),Q true s->wpAny (model prog w) A.in1 (Builtin.List.listLengthHint (.ref it)) Q (fun e s'=>Z (.error e) s') s:=fun Q q=>by
  unfold Builtin.List.listLengthHint
  refine wpAny_bind (wpAny_specialOf hT Fd.nolen ?_)
  refine wpAny_ite_split (fun z=>absurd z (by decide)) fun _=>wpAny_ite_split (fun z=>absurd z (by decide)) fun _ =>?_
  exact wpAny_bind (wpAny_specialOf hT Fd.nohint (wpAny_pure q))
 refine wpAny_bind (wpAny_holding (hint _ ?_))
 refine wpAny_ite_split (fun _ =>?_) fun _=>wpAny_pure ⟨plainId_quiet PySem.F.plain_extend_loop _,go _ c₀ _ (fun _ _ _ q=>q) hS⟩
 refine wpAny_bind (wpAny_rule (wpAny_bind ?_))
 have o1:=Uu (Obj.mapSeq (·.push Value.none)) hS rfl
 have o2:=Uu (Obj.mapSeq (·.pop)) o1 rfl
 refine wpAny_bind (wpAny_updateSeq hS rfl (wpAny_updateSeq (hz:=by seq_fits) o1 rfl (wpAny_pure ⟨plainId_quiet PySem.F.plain_extend_loop _,go _ _ _ (fun b o nb q =>?_) o2⟩)))
 exact(Us _ _ (Ne.symm nb)).trans ((Us _ _ (Ne.symm nb)).trans q)
theorem uL (Fd:we prog w A.in1 it S T fp n P R St)(hn:n<=sizeLine){s:Shared}{Z:Result->Shared->Prop}(hR:St 0 s.heap)(hS:s.heap.get? S=some { cls := .type "list",data := .seq #[] })
  (fin:j0 s.heap S fp n P R s (Z (.ok (.ret .none)))) :
  wpAny (model prog w) A.in1 (Builtin.«list.__init__» ⟨[.ref S,.ref it],[]⟩) (qE prog w A Z) (fun e s'=>Z (.error e) s') s:=by
 refine wpAny_bind ?_
 unfold Builtin.List.listItems
 refine wpAny_bind (wpAny_seqItems hS rfl (wpAny_pure ?_))
 have o1:=Uu (Obj.mapSeq (fun _=>(#[]:Array Value))) hS rfl
 have k1:Keeps s.heap (s.heap.update S (Obj.mapSeq (fun _=>(#[]:Array Value)))) (· = S):=fun b o nb q=>(Us _ _ (Ne.symm nb)).trans q
 refine wpAny_bind (wpAny_updateSeq hS rfl (wpAny_bind (wpAny_letGo ?_)))
 refine oo (s:={ s with heap:=_ }) Fd hn (Fd.keepS _ _ _ hR k1) o1 fun h' tk acc c k G =>?_
 exact fin h' tk acc c (fun b o nb q=>k b o nb (k1 b o (fun z=>nb (.inr z)) q)) G
theorem uN {s:Shared}{Q:Value->Shared->Prop}{E:Value->Shared->Prop}(Fd:we prog w A.in1.in1 it s.heap.objs.size T fp n P R St)(hn:n<=sizeLine)(hR:∀o,St 0 (s.heap.push o))
  (fin:∀h' tk acc c,Keeps s.heap h' fp->pe h' s.heap.objs.size n P R acc c->Q (.ref s.heap.objs.size) { s with heap:=h',toks:=tk }) :
  wpAny (model prog w) A (call (.type "list") [.ref it]) Q E s:=by
 refine callType_codes (Q₁:=fun obj s₁=>obj = .ref s.heap.objs.size/\s₁={ s with heap:=s.heap.push { cls := .type "list",data := .seq #[] } }) F.called_list (F.typeCall_list_1 _) F.entry_list_init
  (code_list_new _ ⟨rfl,rfl⟩) fun obj s₁ h₁ =>?_
 obtain⟨rfl,rfl⟩:=h₁
 have hS:(s.heap.push { cls := .type "list",data := .seq #[] }).get? s.heap.objs.size=some { cls := .type "list",data := .seq #[] }:=Jv _ rfl
 refine⟨⟨_,hS,rfl⟩,F.args_list_init_2 _ _,uL (s:={ s with heap:=_ }) (A:=A.in1) Fd hn (hR _) hS fun h' tk acc c k G=>⟨rfl,fin h' tk acc c (fun b o nb q =>?_) G⟩⟩
 exact k b o (fun z=>z.elim nb fun z=>cq (Jo q) (Jd _) z) (Je _ q)
end
abbrev jx (h:Heap)(z TI TO a:Addr)(f:Bool):Prop:=
 h.get? z=some { cls := .type "zip",dict:=none,data := .fields #[rawInt a,.bool f,.bool false,.ref TI,.ref TO],slots := #[] }
section
variable {prog:Program}{w:World}{A:Around}{E:Value->Shared->Prop}{s:Shared}{z TI TO i1 i2 l1 l2 a:Addr}{f:Bool}{oa:Obj}
theorem oE {Q:Bool->Shared->Prop}(hz:jx s.heap z TI TO a f)(ha:s.heap.get? a=some oa)
  (q:∀h,jx h z TI TO a true->Yr z s.heap h->Q false { s with heap:=h }):wpAny (model prog w) A (Builtin.SmallTypes.ownedTupleIsFree (.ref z)) Q E s:=by
 unfold Builtin.SmallTypes.ownedTupleIsFree
 refine wpAny_bind (wpAny_field hz rfl (x:=rawInt a) rfl ?_)
 show wpAny _ _ (loadIfAlive ((a:Int).toNat) >>= _) _ _ _
 rw[Uz]
 refine wpAny_bind (PySem.W.kdx_alive ha ?_)
 simp -iota only [Option.isNone_some,Ua,if_false]
 refine wpAny_bind (wpAny_field hz rfl (x := .bool f) rfl ?_)
 cases f
 ·exact wpAny_bind (wpAny_setField_rec hz (by simp) fun h e k=>wpAny_pure (q h e k))
 ·exact wpAny_pure (q s.heap hz (Yr.refl _ _))
theorem mU {k:Nat}{xs ys:Array Value}{x y:Value}{Q:Option Value->Shared->Prop}(D:ZipApart z TI TO i1 i2 l1 l2)(hz:jx s.heap z TI TO a f)(ha:s.heap.get? a=some oa)(Ej:IsPair s.heap TI (.ref i1) (.ref i2))
  (h1:s.heap.IsListIter i1 l1 k) (h2:s.heap.IsListIter i2 l2 k) (G8:s.heap.IsList l1 xs) (BE:s.heap.IsList l2 ys) (hx:xs[k]? = some x) (hy:ys[k]? = some y)
  (q:∀h',jx h' z TI TO a true->h'.IsListIter i1 l1 (k+1)->h'.IsListIter i2 l2 (k+1)->IsPair h' s.heap.objs.size x y->Keeps s.heap h' (fun b=>b=z∨b=i1∨b=i2)->Q (some (.ref s.heap.objs.size)) { s with heap:=h' }) :
  wpAny (model prog w) A (pyNext (.ref z)) Q E s:=by
 have hT:s.TypeIs (.ref z) "zip":=⟨_,hz,rfl⟩
 unfold pyNext
 refine wpAny_bind (wpAny_attempt (wpAny_callSpecial?_slot (name:=Str.ofString "__next__") hT F.slot_zip_next (wpAny_call_entry F.slot_zip_next hT F.entry_zip_next ?_ (F.args_zip_next_1 _))))
 change wpAny _ _ (Bind.bind (field (.ref z) 2) _) _ _ _
 refine wpAny_bind (wpAny_field hz rfl (x := .bool false) rfl ?_)
 change wpAny _ _ (Bind.bind (field (.ref z) 3) _) _ _ _
 refine wpAny_bind (wpAny_field hz rfl (x := .ref TI) rfl (wpAny_bind (wpAny_seqItems Ej rfl ?_)))
 change wpAny _ _ (Bind.bind (Builtin.SmallTypes.ownedTupleIsFree (.ref z)) _) _ _ _
 refine wpAny_bind (oE hz ha fun h0 z0 k0 =>?_)
 simp -iota only [Ua,if_false,<-Array.forIn_toList,List.forIn_cons,List.forIn_nil]
 refine wpAny_bind (wpAny_bind (wpAny_bind (wpAny_holding (wpAny_bind (wpAny_nextOf_list_item (h1.extBut k0.extBut D.i1z) (G8.extBut k0.extBut D.l1z) hx fun h4 e4 k4=>wpAny_pure (wpAny_pure ?_))))))
 refine wpAny_bind (wpAny_bind (wpAny_holding (wpAny_bind (wpAny_nextOf_list_item ((h2.extBut k0.extBut D.i2z).extBut k4.extBut D.i12.symm) ((BE.extBut k0.extBut D.l2z).extBut k4.extBut D.l2i1) hy fun h5 e5 k5=>wpAny_pure (wpAny_pure (wpAny_pure ?_))))))
 refine wpAny_bind (wpAny_newTuple (hsz:=by show 2<=sizeLine;decide) (wpAny_pure ⟨_,rfl,wpAny_pure ?_⟩))
 have hsz:h5.objs.size=s.heap.objs.size:=by rw[k5.1,k4.1,k0.1]
 show Q (some (.ref h5.objs.size)) _
 rw[hsz]
 refine q (h5.push { cls := .type "tuple",data := .seq #[x,y] }) (Je _ (k5.extBut _ _ D.i2z.symm (k4.extBut _ _ D.i1z.symm z0))) ((e4.extBut k5.extBut D.i12).at fun o e=>Je _ e) (e5.at fun o e=>Je _ e) (by rw[<-hsz];exact Jv _ rfl) fun b o nb e =>?_
 exact Je _ (k5.extBut _ _ (fun z=>nb (.inr (.inr z))) (k4.extBut _ _ (fun z=>nb (.inr (.inl z))) (k0.extBut _ _ (fun z=>nb (.inl z)) e)))
theorem nH {k:Nat}{xs ys:Array Value}{Q:Option Value->Shared->Prop}(hh:A.handled=none)(D:ZipApart z TI TO i1 i2 l1 l2)(hz:jx s.heap z TI TO a f)(ha:s.heap.get? a=some oa)(Ej:IsPair s.heap TI (.ref i1) (.ref i2))
  (h1:s.heap.IsListIter i1 l1 k) (h2:s.heap.IsListIter i2 l2 k) (G8:s.heap.IsList l1 xs) (BE:s.heap.IsList l2 ys) (he:xs[k]? = none∨ys[k]? = none)
  (q:∀h',Keeps s.heap h' (fun b=>b=z∨b=i1∨b=i2)->Q none { s with heap:=h' }) :
  wpAny (model prog w) A (pyNext (.ref z)) Q E s:=by
 have hT:s.TypeIs (.ref z) "zip":=⟨_,hz,rfl⟩
 unfold pyNext
 refine wpAny_bind (wpAny_attempt (wpAny_callSpecial?_slot (name:=Str.ofString "__next__") hT F.slot_zip_next (wpAny_call_entry F.slot_zip_next hT F.entry_zip_next ?_ (F.args_zip_next_1 _))))
 change wpAny _ _ (Bind.bind (field (.ref z) 2) _) _ _ _
 refine wpAny_bind (wpAny_field hz rfl (x := .bool false) rfl ?_)
 change wpAny _ _ (Bind.bind (field (.ref z) 3) _) _ _ _
 refine wpAny_bind (wpAny_field hz rfl (x := .ref TI) rfl (wpAny_bind (wpAny_seqItems Ej rfl ?_)))
 change wpAny _ _ (Bind.bind (Builtin.SmallTypes.ownedTupleIsFree (.ref z)) _) _ _ _
 refine wpAny_bind (oE hz ha fun h0 z0 k0 =>?_)
 simp -iota only [Ua,if_false,<-Array.forIn_toList,List.forIn_cons,List.forIn_nil]
 refine wpAny_bind (wpAny_bind (wpAny_bind (wpAny_holding ?_)))
 cases hx:xs[k]? with
 | none=>
  refine wpAny_bind (wpAny_nextOf_list_end hh (h1.extBut k0.extBut D.i1z) (G8.extBut k0.extBut D.l1z) hx fun h4 e k4 oe =>?_)
  refine ae.el (oe) _ ?_
  rintro o ho hc
  exact wpAny_bind (wpAny_isInstance (T := "StopIteration") (b:=true) ⟨o,ho,hc⟩ isSubtype_stop (wpAny_pure (q h4 fun b o nb x=>k4 _ _ (fun z=>nb (.inr (.inl z))) (k0.extBut _ _ (fun z=>nb (.inl z)) x))))
 | some x=>
  have hy:ys[k]? = none:=he.resolve_left (by rw[hx];exact fun z=>nomatch z)
  refine wpAny_bind (wpAny_nextOf_list_item (h1.extBut k0.extBut D.i1z) (G8.extBut k0.extBut D.l1z) hx fun h4 e4 k4=>wpAny_pure (wpAny_pure ?_))
  refine wpAny_bind (wpAny_bind (wpAny_holding (wpAny_bind (wpAny_nextOf_list_end hh ((h2.extBut k0.extBut D.i2z).extBut k4.extBut D.i12.symm) ((BE.extBut k0.extBut D.l2z).extBut k4.extBut D.l2i1) hy fun h5 e k5 oe =>?_))))
  refine ae.el (oe) _ ?_
  rintro o ho hc
  exact wpAny_bind (wpAny_isInstance (T := "StopIteration") (b:=true) ⟨o,ho,hc⟩ isSubtype_stop (wpAny_pure (q h5 fun b o nb x=>k5 _ _ (fun z=>nb (.inr (.inr z))) (k4.extBut _ _ (fun z=>nb (.inr (.inl z))) (k0.extBut _ _ (fun z=>nb (.inl z)) x)))))
end
structure qe (z TI TO i1 i2 l1 l2 S:Addr)(xs ys:Array Value)(i:Nat)(h:Heap):Prop where
 ti:IsPair h TI (.ref i1) (.ref i2)
 to:∃a b,IsPair h TO a b
 it1:h.IsListIter i1 l1 i
 it2:h.IsListIter i2 l2 i
 a1:h.IsList l1 xs
 a2:h.IsList l2 ys
 zp:IsZip h z TI TO .none∨0<i/\∃a f oa,jx h z TI TO a f/\h.get? a=some oa/\S<a
abbrev vm (z TO i1 i2:Addr)(b:Addr):Prop:=b=z∨b=TO∨b=i1∨b=i2
abbrev rX (S:Addr)(xs ys:Array Value)(j:Nat)(v:Value)(h:Heap):Prop:=fR fun a x y=>v = .ref a/\S<a/\xs[j]? = some x/\ys[j]? = some y/\IsPair h a x y
abbrev xq (u v:Value):Prop:=∃a b:Addr,u = .ref a/\v = .ref b/\a<b
theorem vi {prog:Program}{w:World}{A:Around}{z TI TO i1 i2 l1 l2 S:Addr}{xs ys:Array Value}(hh:A.handled=none)(D:ZipApart z TI TO i1 i2 l1 l2)(b1:z<S)(b2:TI<S)(b3:TO<S)(b4:i1<S)(b5:i2<S)(b6:l1<S)(b7:l2<S):
  we prog w A z S "zip" (vm z TO i1 i2) (min xs.size ys.size) (rX S xs ys) xq (qe z TI TO i1 i2 l1 l2 S xs ys) where
 sfp:=fun q=>by
  rcases q with q|q|q|q<;>(rw[q] at b1 b3 b4 b5;first|exact absurd b1 (Yg _)|exact absurd b3 (Yg _)|exact absurd b4 (Yg _)|exact absurd b5 (Yg _))
 ne:=J8 b1
 ty:=fun i h st=>by
  rcases st.zp with q|⟨_,a,f,oa,q,_⟩
  ·exact⟨_,q,rfl⟩
  ·exact⟨_,q,rfl⟩
 self:=fun s Q E st q=>by
  rcases st.zp with r|⟨r,_⟩
  ·exact wpAny_pyIter_zip r q
  ·exact absurd r (Yg _)
 item:=fun i s Q E hi st hS q=>by
  obtain⟨ti,⟨a,b,to⟩,it1,it2,a1,a2,zp⟩:=st
  have hx:xs[i]? = some (xs[i]'(by omega)):=Ub (by omega)
  have hy:ys[i]? = some (ys[i]'(by omega)):=Ub (by omega)
  have old:∀j u,rX S xs ys j u s.heap->xq u (.ref s.heap.objs.size):=fun j u hz_=>ae.el hz_ _ fun a x y e _ _ _ p=>⟨a,_,e,rfl,Jo p⟩
  rcases zp with r|⟨Bg,c,f,oc,r,oc',hc⟩
  ·refine wpAny_pyNext_zip_item D r ti to it1 it2 a1 a2 hx hy fun h' r1 r2 r3 r4 r5 r6 r7 =>?_
   have kp:Keeps s.heap h' (vm z TO i1 i2):=fun b o nb e=>r7 b o (fun z=>nb (.inl z)) (fun z=>nb (.inr (.inl z))) (fun z=>nb (.inr (.inr (.inl z)))) (fun z=>nb (.inr (.inr (.inr z)))) e
   refine q _ h' s.toks kp ⟨r7 _ _ D.TIz D.TITO D.TIi1 D.TIi2 ti,⟨_,_,r2⟩,r3,r4,a1.at fun o e=>r7 _ _ D.l1z D.l1TO D.l1i1 D.l1i2 e,a2.at fun o e=>r7 _ _ D.l2z D.l2TO D.l2i1 D.l2i2 e,.inr ⟨Nat.succ_pos _,_,_,_,r1,r5,hS⟩⟩ ⟨_,_,_,rfl,hS,hx,hy,r5⟩ old
  ·have ne:∀{b:Addr},b<S->c≠b:=fun hb=>Yw (Wq hb hc)
   refine mU D r oc' ti it1 it2 a1 a2 hx hy fun h' r1 r2 r3 r4 r5 =>?_
   have kp:Keeps s.heap h' (vm z TO i1 i2):=fun b o nb e=>r5 b o (fun z=>z.elim (fun z=>nb (.inl z)) fun z=>nb (.inr (.inr z))) e
   refine q _ h' s.toks kp ⟨r5 _ _ (fun z=>z.elim D.TIz fun z=>z.elim D.TIi1 D.TIi2) ti,⟨_,_,r5 _ _ (fun z=>z.elim D.TOz fun z=>z.elim D.TOi1 D.TOi2) to⟩,r2,r3,a1.at fun o e=>r5 _ _ (fun z=>z.elim D.l1z fun z=>z.elim D.l1i1 D.l1i2) e,a2.at fun o e=>r5 _ _ (fun z=>z.elim D.l2z fun z=>z.elim D.l2i1 D.l2i2) e,
    .inr ⟨Nat.succ_pos _,_,_,_,r1,r5 _ _ (fun z=>z.elim (ne b1) fun z=>z.elim (ne b4) (ne b5)) oc',hc⟩⟩ ⟨_,_,_,rfl,hS,hx,hy,r4⟩ old
 stop:=fun s Q E st hS q=>by
  obtain⟨ti,⟨a,b,to⟩,it1,it2,a1,a2,zp⟩:=st
  have he:xs[min xs.size ys.size]? = none∨ys[min xs.size ys.size]? = none:=by
   rcases Nat.le_total xs.size ys.size with h|h
   ·exact .inl (Yh (by omega))
   ·exact .inr (Yh (by omega))
  rcases zp with r|⟨Bg,c,f,oc,r,oc',hc⟩
  ·exact wpAny_pyNext_zip_end hh D r ti to it1 it2 a1 a2 he fun h' k=>q h' s.toks fun b o nb e=>k b o (fun z=>nb (.inl z)) (fun z=>nb (.inr (.inl z))) (fun z=>nb (.inr (.inr (.inl z)))) (fun z=>nb (.inr (.inr (.inr z)))) e
  ·exact nH hh D r oc' ti it1 it2 a1 a2 he fun h' k=>q h' s.toks fun b o nb e=>k b o (fun z=>z.elim (fun z=>nb (.inl z)) fun z=>nb (.inr (.inr z))) e
 keepS:=fun i h h' st k=>by
  obtain⟨ti,⟨a,b,to⟩,it1,it2,a1,a2,zp⟩:=st
  refine⟨k _ _ (J8 b2) ti,⟨a,b,k _ _ (J8 b3) to⟩,it1.at fun o e=>k _ o (J8 b4) e,it2.at fun o e=>k _ o (J8 b5) e,a1.at fun o e=>k _ o (J8 b6) e,a2.at fun o e=>k _ o (J8 b7) e,?_⟩
  rcases zp with r|⟨Bg,c,f,oc,r,oc',hc⟩
  ·exact .inl (k _ _ (J8 b1) r)
  ·exact .inr ⟨Bg,c,f,oc,k _ _ (J8 b1) r,k _ _ (Yw hc) oc',hc⟩
 keepP:=fun j v h h' ⟨a,x,y,e,ha,h1,h2,p⟩ k=>by
  have ne:∀{b:Addr},b<S->a≠b:=fun hb=>Yw (Wq hb ha)
  exact⟨a,x,y,e,ha,h1,h2,k _ _ (fun z=>z.elim (fun z=>z.elim (ne b1) fun z=>z.elim (ne b3) fun z=>z.elim (ne b4) (ne b5)) (Yw ha)) p⟩
 nolen:=by rw[typeLookup_type,builtinLookup_eq_fast];kernel_rfl
 nohint:=by rw[typeLookup_type,builtinLookup_eq_fast];kernel_rfl
 nl:=by decide
 nt:=by decide
theorem Inv.pX {X:Cx}{pins:List (Addr×Obj)}{σ:St}:∀(as:List Addr) (ps:List (List V)) {H:Hp} {s:Shared},Inv X pins σ H s->as.Nodup->as.length=ps.length->(∀a∈as,eg X pins H a/\X.s₀.heap.objs.size<=a) ->
  (∀(j:Nat) a p,as[j]? = some a->ps[j]? = some p->p.length<=sizeLine/\∃av:List Value,Vals p av/\IsTup s.heap a av.toArray) ->
  ∃H',Inv X pins σ H' s/\aw H H'/\(∀b,b∉as->H' b=H b)/\∀(j:Nat) a p,as[j]? = some a->ps[j]? = some p->H' a=some (.tup p)
 | [],ps,H,s,I,_,_,_,_=>⟨H,I,aw.refl H,fun _ _=>rfl,fun j a p h _=>by simp at h⟩
 | a::as,[],H,s,I,_,hl,_,_=>by simp at hl
 | a::as,p::ps,H,s,I,nd,hl,hf,ho=>by
  obtain⟨na,yk⟩:=Yd.mp nd
  obtain⟨fa,sa⟩:=hf a Jn
  obtain⟨hz,av,rv,ht⟩:=ho 0 a p rfl rfl
  have I1:=I.adopt (T:=a) (o := .tup p) fa sa ⟨hz,av,rv,ht⟩
  obtain⟨H',I',sm,same,all⟩:=Inv.pX as ps I1 yk (by simpa using hl) (fun b hb=>by
   obtain⟨fb,sb⟩:=hf b (Jp _ hb)
   exact⟨⟨by rw[aq (fun(e:b=a)=>na (by rw[<-e];exact hb))];exact fb.1,fb.2⟩,sb⟩) (fun j b q h1 h2=>ho (j+1) b q h1 h2)
  refine⟨H',I',fun b o e=>sm b o (by rw[aq (aj e fa.1)];exact e),fun b hb =>?_,fun j b q h1 h2 =>?_⟩
  ·rw[same b fun z=>hb (Jp _ z),aq (fun(z:b=a)=>hb (by rw[z];exact Jn))]
  ·cases j with
   | zero=>
    cases h1;cases h2
    rw[same a na];exact aJ
   | succ j=>exact all j b q h1 h2
theorem sO:∀{l:List Value},(∀v∈l,∃a:Addr,v = .ref a)->∃as:List Addr,l=as.map Value.ref
 | [],_=>⟨[],rfl⟩
 | v::r,h=>by
  obtain⟨a,rfl⟩:=h v Jn
  obtain⟨as,rfl⟩:=sO fun u hu=>h u (Jp _ hu)
  exact⟨a::as,rfl⟩
section
variable {X:Cx}
def Oj (K:Jb)(ta:TA):TE:=fun σ H Q=>ta σ H fun vs H1=>om fun l1 l2 xs ys=>vs=[.ref l1,.ref l2]/\aE K H1 l1 xs/\aE K H1 l2 ys /\
 ∀H' p (as:List Addr),aw H1 H'->H1 p=none->H' p=some (.lst (as.map V.ref))->as.length=min xs.length ys.length ->
  (∀(j:Nat) a x y,as[j]? = some a->xs[j]? = some x->ys[j]? = some y->H1 a=none/\H' a=some (.tup [x,y]))->Q (.ref p) H'
theorem mh {xs ys:List V}(j:Nat)(x y:V)(hx:xs[j]? = some x)(hy:ys[j]? = some y):((xs.zip ys).map fun q=>[q.1,q.2])[j]? = some [x,y]:=by
 rw[Jj,(List.getElem?_zip_eq_some (z:=(x,y))).mpr ⟨hx,hy⟩]
 rfl
theorem kM {a b:Expr}{ta:TA}{p p2 pos Ak:Pos}(hc:X.calm=true)(Nh:Gl X "list")(L5:X.mg "list" = none)(OW:Gl X "zip")(N5:X.mg "zip" = none)(ha:PA X [a,b] ta)
  (Em:bootBuiltins "list" = some (.type "list"):=by first|rfl|decide) (NX:bootBuiltins "zip" = some (.type "zip"):=by first|rfl|decide)
  (G2:starEach [.Call (.Name "zip" p2) [a,b] [] Ak] X.env=[(false,eval (.Call (.Name "zip" p2) [a,b] [] Ak) X.env)]:=by rfl)
  (hs:starEach [a,b] X.env=[(false,eval a X.env),(false,eval b X.env)]:=by rfl) (zI:starEach [b] X.env=[(false,eval b X.env)]:=by rfl) :
  PE X (.Call (.Name "list" p) [.Call (.Name "zip" p2) [a,b] [] Ak] [] pos) (Oj X.K ta):=by
 intro pins s σ H Q I h
 refine wpAny_Call_Name_kw (gG I Nh L5 Em ?_)
 refine PyProof.Rows.callWith_type1 ?_ G2 rfl
 rw[G2]
 show wpAny _ _ (spliced ((false,eval (.Call (.Name "zip" p2) [a,b] [] Ak) X.env)::[])) _ _ _
 refine Calls.spliced_cons ?_
 refine Call_ (gG I OW N5 NX (PyProof.Rows.callWith_type1 (aR (ha s σ H _ I h) fun us s1 hz_=>ae.el hz_ _ fun vs H1 I1 r1 q1 =>?_) (by rw[hs,zI]) (by rw[zI];rfl)))
 obtain⟨l1,l2,xs,ys,e,q1,q2,q⟩:=q1
 subst e
 obtain⟨u,w',rfl,r1,r2⟩:=vals2 r1
 cases r1;cases r2
 obtain⟨its1,rv1,p1,GU⟩:=I1.list q1
 refine ae.el (I1.list q2) _ ?_
 rintro its2 rv2 p2 hz2
 have e1:=rv1.length
 have e2:=rv2.length
 have a1:l1<s1.heap.objs.size:=by obtain⟨_,e,_⟩:=p1.isList;exact Jo e
 have a2:l2<s1.heap.objs.size:=by obtain⟨_,e,_⟩:=p2.isList;exact Jo e
 refine call_zip_2 p1.isList p2.isList fun h' hz Ej hTO hi1 u7 hsz hk =>?_
 refine Calls.spliced_nil ?_
 have Gf:s1.heap.objs.size<=h'.objs.size:=by rw[hsz];exact U4 _ _
 have fM:∀n,n<5->s1.heap.objs.size+n<h'.objs.size:=fun n hn=>by rw[hsz];exact Nat.add_lt_add_left hn _
 have zs:∀o,qe (s1.heap.objs.size+4) (s1.heap.objs.size+2) (s1.heap.objs.size+3) s1.heap.objs.size (s1.heap.objs.size+1) l1 l2 h'.objs.size its1.toArray its2.toArray 0 (h'.push o):=fun o=>
  ⟨Je _ Ej,⟨_,_,Je _ hTO⟩,hi1.at fun o e=>Je _ e,u7.at fun o e=>Je _ e,(p1.isList.at fun o e=>hk _ o e).push _,(p2.isList.at fun o e=>hk _ o e).push _,.inl (Je _ hz)⟩
 refine uN (s:={ s1 with heap:=h' }) (vi (I.ok.hd hc) (zipApart_new a1 a2) (fM 4 (by decide)) (fM 2 (by decide)) (fM 3 (by decide)) (fM 0 (by decide)) (fM 1 (by decide)) (J3 a1 Gf) (J3 a2 Gf)) (by simp;omega) zs fun h2 tk acc c hk2 G =>?_
 obtain⟨hS2,hsz2,hpw,dM⟩:=G
 obtain⟨as,nK⟩:=sO (l:=acc.toList) fun v hv=>by
  obtain⟨j,hj⟩:=Yb.mp hv
  obtain⟨a,_,_,e,_⟩:=dM j v (by simpa using hj)
  exact⟨a,e⟩
 have vF:∀(j:Nat) a,as[j]? = some a->∃x y,h'.objs.size<a/\its1.toArray[j]? = some x/\its2.toArray[j]? = some y/\IsPair h2 a x y:=fun j a h=>by
  obtain⟨a',x,y,e,g⟩:=dM j (.ref a) (by
   have:acc.toList[j]? = some (.ref a):=by rw[nK,Jj,h];rfl
   simpa using this)
  cases e
  exact⟨x,y,g⟩
 have above:∀a∈as,h'.objs.size<a:=fun a ha=>by
  obtain⟨j,hj⟩:=Yb.mp ha
  obtain⟨_,_,g,_⟩:=vF j a hj
  exact g
 have old:∀b o,s1.heap.get? b=some o->h2.get? b=some o:=fun b o e=>by
  have hb:=Jo e
  have gt:∀n,b≠s1.heap.objs.size+n:=fun n=>J8 (J3 hb (U4 _ _))
  exact hk2 b o (fun z=>z.elim (gt 4) fun z=>z.elim (gt 3) fun z=>z.elim (gt 0) (gt 1)) (hk b o e)
 have I2:Inv X pins σ H1 { s1 with heap:=h2,toks:=tk }:=I1.kept old
 have Cj:∀a∈as,s1.heap.objs.size<=a:=fun a ha=>U8 (Jy Gf (above a ha))
 have nd:as.Nodup:=by
  rw[nK,List.pairwise_map] at hpw
  exact hpw.imp fun hz_=>ae.el hz_ _ fun a b e1 e2 h=>by cases e1;cases e2;exact J8 h
 have kj:∀a,s1.heap.objs.size<=a->eg X pins H1 a/\X.s₀.heap.objs.size<=a:=fun a ha=>⟨I1.kj ha (I1.aZ.fresh ha),Js I1.sz ha⟩
 have AH:as.length=min xs.length ys.length:=by
  have z:acc.toList.length=as.length:=by rw[nK,Ja]
  simp at z hsz2
  omega
 obtain⟨H',I',sm,same,all⟩:=I2.pX as ((xs.zip ys).map fun q=>[q.1,q.2]) nd (by rw[Ja,List.length_zip];omega) (fun a ha=>kj a (Cj a ha)) (fun j a pp h1 h2'=>by
  refine ae.el (vF j a h1) _ ?_
  rintro x y _ g1 g2 g3
  refine ae.el (fj rv1 g1) _ ?_
  rintro vx gx rx
  refine ae.el (fj rv2 g2) _ ?_
  rintro vy gy ry
  have z:=mh j vx vy gx gy
  rw[z] at h2';cases h2'
  exact⟨by show 2<=sizeLine;decide,[x,y],.cons rx (.cons ry .nil),⟨_,g3,rfl,_,rfl⟩⟩)
 have HX:h'.objs.size∉as:=fun hm=>Yg _ (above _ hm)
 have Dh:H1 h'.objs.size=none:=I1.aZ.fresh Gf
 obtain⟨fS,sS⟩:=kj h'.objs.size Gf
 have Nl:eg X pins H' h'.objs.size:=⟨by rw[same _ HX];exact Dh,fS.2⟩
 have I3:=I'.adopt (T:=h'.objs.size) (o := .lst (as.map V.ref)) Nl sS ⟨by rw[Ja];omega,acc.toList,c,by
  rw[nK]
  clear hS2 nK all same I' sm Cj nd AH HX above vF
  induction as with
  | nil=>exact .nil
  | cons a r ih=>exact .cons rfl ih,by simpa using hS2⟩
 refine⟨.ref h'.objs.size,_,I3,rfl,q _ _ as (fun b o e =>?_) Dh aJ AH fun j a x y h1 h2' h3'=>⟨(kj a (Cj a (Wo h1))).1.1,?_⟩⟩
 ·rw[aq (aj e Dh)];exact sm b o e
 ·rw[aq (fun(z:a=h'.objs.size)=>HX (by rw[<-z];exact Wo h1))]
  exact all j a [x,y] h1 (mh j x y h2' h3')
end
structure dz (H:Hp)(p:Addr)(o:HO)(H':Hp):Prop where
 nn:H p=none
 eq:H'=upd H p o
theorem dz.at {H H':Hp}{p:Addr}{o:HO}(n:dz H p o H'):H' p=some o:=by rw[n.eq];exact aJ
theorem dz.ne {H H':Hp}{p a:Addr}{o:HO}(n:dz H p o H')(h:a≠p):H' a=H a:=by rw[n.eq];exact aq h
theorem dz.same {H H':Hp}{p:Addr}{o:HO}(n:dz H p o H'):aw H H':=fun a u e=>by rw[n.ne (aj e n.nn)];exact e
theorem dz.back {H H':Hp}{p a:Addr}{o:HO}(n:dz H p o H')(h:H' a=none):H a=none:=by
 cases e:H a with
 | none=>rfl
 | some u=>rw[n.same a u e] at h;cases h
structure lj (H:Hp)(p:Addr)(o:HO)(H':Hp):Prop where
 eq:H'=upd H p o
theorem lj.at {H H':Hp}{p:Addr}{o:HO}(n:lj H p o H'):H' p=some o:=by rw[n.eq];exact aJ
theorem lj.ne {H H':Hp}{p a:Addr}{o:HO}(n:lj H p o H')(h:a≠p):H' a=H a:=by rw[n.eq];exact aq h
theorem jW {H:Hp}{o:HO}{F:Addr->Hp->Prop}:(∀p,H p=none->F p (upd H p o)) = ∀p H',dz H p o H'->F p H':=
 propext ⟨fun h p H' n=>by rw[n.eq];exact h p n.nn,fun h p hp=>h p _ ⟨hp,rfl⟩⟩
theorem zA {H:Hp}{p:Addr}{o:HO}{F:Hp->Prop}:F (upd H p o) = ∀H',lj H p o H'->F H':=
 propext ⟨fun h H' n=>by rw[n.eq];exact h,fun h=>h _ ⟨rfl⟩⟩
section
variable {X:Cx}{pos:Pos}{es:List Expr}{t:TA}
def AW (t:TA):TE:=fun σ H Q=>t σ H fun xs H1=>xs.length<=sizeLine/\∀p H',dz H1 p (.tup xs) H'->Q (.ref p) H'
def vI (t:TA):TE:=fun σ H Q=>t σ H fun xs H1=>xs.length<=sizeLine/\∀p H',dz H1 p (.lst xs) H'->Q (.ref p) H'
theorem fu {x1}(h:PA X es t):PE X (.Tuple es x1 pos) (AW t):=by
 have e:AW t=DC t:=by
  funext σ H Q
  show t σ H _=t σ H _
  congr 1;funext xs H1
  exact congrArg (_ /\ ·) (jW (F:=fun p H'=>Q (.ref p) H')).symm
 rw[e];exact Cn h
theorem dy (h:PA X es t):PE X (.List es pos) (vI t):=by
 have e:vI t=Fh t:=by
  funext σ H Q
  show t σ H _=t σ H _
  congr 1;funext xs H1
  exact congrArg (_ /\ ·) (jW (F:=fun p H'=>Q (.ref p) H')).symm
 rw[e];exact CW h
def qH (oP:List (TE×TE)):TE:=fun σ H Q=>∀p H0,dz H p (.dK []) H0->lg oP σ H0 fun ps H2=>H2 p=some (.dK [])/\∃kvs:List (Key×V),ps=kvs.map (fun kv=>(kV kv.1,kv.2))/\kvs.length<=15/\∀H3,lj H2 p (.dK (cP [] kvs)) H3->Q (.ref p) H3
theorem Er {keys:List (Option Expr)}{values:List Expr}{oP:List (TE×TE)}(h:FH X pos keys values oP)(dM:keys.all (·.isSome)=true)(hl:keys.length=values.length)(h0:keys≠[])
  (K7:keys.length<=15):PE X (.Dict keys values pos) (qH oP):=by
 have e:qH oP=xG oP:=by
  funext σ H Q
  unfold qH xG
  rw[jW (F:=fun p H0=>lg oP σ H0 fun ps H2=>H2 p=some (.dK [])/\∃kvs:List (Key×V),ps=kvs.map (fun kv=>(kV kv.1,kv.2))/\kvs.length<=15/\Q (.ref p) (upd H2 p (.dK (cP [] kvs))))]
  simp only[<-zA (F:=fun H3=>Q (.ref _) H3)]
 rw[e];exact ze h dM hl h0 K7
end
section
variable {X:Cx}(K:Jb)
def Fg (K:Jb):V->Option Int->Option Int->Hp->VK->Prop:=fun x lo hi H Q=>(ck fun a xs=>x = .ref a/\aE K H a xs/\∀p H',dz H p (.lst (lz xs lo hi)) H'->Q (.ref p) H')∨(∃z,x = .str z/\z.length<=sizeLine/\Q (.str (Txt.slice z lo hi)) H)
theorem yj (hK:X.K=K:=by rfl):xX X (Fg K):=by
 subst hK
 intro pins s σ H x v vl vu lo hi sl Q I rx hs pl pu q
 refine FP s σ H x v vl vu lo hi sl Q I rx hs pl pu ?_
 rcases q with ⟨a,xs,e,h,q⟩|q
 ·exact .inl ⟨a,xs,e,h,fun p hp=>q p _ ⟨hp,rfl⟩⟩
 ·exact .inr q
theorem An (hK:X.K=K:=by rfl):cn X (.type "list") (fun xs H Q=>∃p ys,xs=[.ref p]/\(aE K H p ys∨d9 K H p ys)/\∀l H',dz H l (.lst ys) H'->Q (.ref l) H'):=by
 subst hK
 intro pins s σ H xs us Q I r h
 refine ae.el (h) _ ?_
 rintro p ys e h q
 exact m9 s σ H xs us Q I r ⟨p,ys,e,h,fun l hl=>q l _ ⟨hl,rfl⟩⟩
end
section
variable {X:Cx}
def Gy:R2:=fun x y H Q=>(ck fun i j=>x = .int i/\y = .int j/\Q (.int (i+j)) H)∨(∃i j,x = .str i/\y = .str j/\i.length+j.length<=sizeLine/\Q (.str (i++j)) H) ∨
 om fun l b xs zs=>x = .ref l/\y = .ref b/\H l=some (.lst xs)/\H b=some (.lst zs)/\xs.length+zs.length<=sizeLine/\∀p H',dz H p (.lst (xs++zs)) H'->Q (.ref p) H'
theorem dN:dB X (binaryOp .Add) Gy:=by
 intro pins s σ H x y v u Q I rx ry h
 refine E4 s σ H x y v u Q I rx ry ?_
 rcases h with h|h|⟨l,b,xs,zs,e1,e2,h1,h2,h3,q⟩
 ·exact .inl h
 ·exact .inr (.inl h)
 ·exact .inr (.inr ⟨l,b,xs,zs,e1,e2,h1,h2,h3,fun p hp=>q p _ ⟨hp,rfl⟩⟩)
def AM:R2:=fun x y H Q=>(ck fun i j=>x = .int i/\y = .int j/\rO i j/\Q (.int (i*j)) H) ∨
 fR fun l k xs=>x = .ref l/\y = .int k/\H l=some (.lst xs) /\ -(2^63)<=k/\k<2^63/\xs.length*k.toNat<=sizeLine/\∀p H',dz H p (.lst (Jq k.toNat xs).flatten) H'->Q (.ref p) H'
theorem nq:dB X (binaryOp .Mult) AM:=by
 intro pins s σ H x y v u Q I rx ry h
 refine DL s σ H x y v u Q I rx ry ?_
 rcases h with h|⟨l,k,xs,e1,e2,h1,h2,h3,h4,q⟩
 ·exact .inl h
 ·exact .inr ⟨l,k,xs,e1,e2,h1,h2,h3,h4,fun p hp=>q p _ ⟨hp,rfl⟩⟩
theorem yX:cn X (.builtin "divmod") (fun xs H Q=>∃i j,xs=[.int i,.int j]/\CJ i j/\∀p H',dz H p (.tup [.int (i / j),.int (i%j)]) H'->Q (.ref p) H'):=by
 intro pins s σ H xs us Q I r h
 refine ae.el (h) _ ?_
 rintro i j e c q
 exact pP s σ H xs us Q I r ⟨i,j,e,c,fun p hp=>q p _ ⟨hp,rfl⟩⟩
theorem gW:ur X "list.append" (fun x vs H Q=>∃l xs y,x = .ref l/\vs=[y]/\H l=some (.lst xs)/\xs.length<sizeLine/\∀H',lj H l (.lst (xs++[y])) H'->Q .non H'):=by
 intro pins s σ H x xs v us Q I rx rv h
 refine ae.el (h) _ ?_
 rintro l ys y e1 e2 h1 h2 q
 exact uG s σ H x xs v us Q I rx rv ⟨l,ys,y,e1,e2,h1,h2,q _ ⟨rfl⟩⟩
theorem nJ:ur X "list.extend" (fun x vs H Q=>∃l b xs zs,x = .ref l/\vs=[.ref b]/\H l=some (.lst xs)/\H b=some (.lst zs)/\xs.length+zs.length<=sizeLine/\∀H',lj H l (.lst (xs++zs)) H'->Q .non H'):=by
 intro pins s σ H x xs v us Q I rx rv h
 refine ae.el (h) _ ?_
 rintro l b ys zs e1 e2 h1 h2 h3 q
 exact uC s σ H x xs v us Q I rx rv ⟨l,b,ys,zs,e1,e2,h1,h2,h3,q _ ⟨rfl⟩⟩
theorem Lj:ur X "list.pop" (fun x vs H Q=>∃l xs y,x = .ref l/\vs=[]/\H l=some (.lst xs)/\xs[xs.length-1]? = some y/\∀H',lj H l (.lst xs.dropLast) H'->Q y H'):=by
 intro pins s σ H x xs v us Q I rx rv h
 refine ae.el (h) _ ?_
 rintro l ys y e1 e2 h1 h2 q
 exact Bj s σ H x xs v us Q I rx rv ⟨l,ys,y,e1,e2,h1,h2,q _ ⟨rfl⟩⟩
theorem CF:ur X "list.pop" (fun x vs H Q=>∃l xs i y,x = .ref l/\vs=[.int i]/\H l=some (.lst xs)/\0<=i/\i<2^63/\xs[i.toNat]? = some y/\∀H',lj H l (.lst (xs.eraseIdx i.toNat)) H'->Q y H'):=by
 intro pins s σ H x xs v us Q I rx rv h
 refine ae.el (h) _ ?_
 rintro l ys i y e1 e2 h1 h2 h3 h4 q
 refine vR s σ H x xs v us Q I rx rv ⟨l,ys,i,i.toNat,y,e1,e2,h1,by omega,h3,?_,h4,q _ ⟨rfl⟩⟩
 have hl:=(Ju.mp h4).1
 have q:nY ys ((i.toNat:Nat):Int)=some y:=nB h4
 have ei:((i.toNat:Nat):Int)=i:=by omega +splitMinMax
 rw[ei] at q
 obtain⟨j,hj,IU,_⟩:=jY q
 have:wN ys.length i=some i.toNat:=by unfold wN;rw[if_pos h2,if_pos (by omega)]
 exact(nX this).1
end
theorem cX {J:It}{n:Nat}{js:List Nat}{g:TG}{tc:TT}{te:TE}{σ:St}{H1:Hp}{Q:V->Hp->Prop}(N:Nat)(Pv:Nat->List V->Hp->Prop)(h0:Pv 0 [] H1)
  (go:∀i ys H (Nx:List V->Hp->Prop),i<N->Pv i ys H->(∀ys' H',Pv (i+1) ys' H'->Nx ys' H')->J.go i H/\ys.length<sizeLine /\
   ∀x H',J.yld i H x H'->g x (Jq n none++cL σ js) H' fun σ2 H2=>tc σ2 H2 fun b H3=>if b=true then te σ2 H3 fun y H4=>Nx (ys++[y]) H4 else Nx ys H3)
  (stop:∀ys H,Pv N ys H->J.stop N H/\∀p H',dz H p (.lst ys) H'->Q (.ref p) H'):sG J n js g tc te σ H1 fun ys H2=>∀p,H2 p=none->Q (.ref p) (upd H2 p (.lst ys)):=
 bF N Pv h0 go fun ys H h=>⟨(stop ys H h).1,fun p hp=>(stop ys H h).2 p _ ⟨hp,rfl⟩⟩
theorem ic {α:Type}{xs:List α}{i:Int}{v: α}(h0:0<=i)(h:xs[i.toNat]? = some v):nY xs i=some v:=by
 have q:=nB h
 have e:((i.toNat:Nat):Int)=i:=by omega
 rw[e] at q
 exact q
noncomputable def xY:PyData->String
 | .none => "NoneType"
 | .bool _ => "bool"
 | .int _ => "int"
 | .str _ => "str"
 | .list _ => "list"
 | .tuple _ => "tuple"
 | .dict _ => "dict"
noncomputable def D0 (d:PyData)(T:String):Bool:=xY d==T||(xY d == "bool" && T == "int")
theorem lM (K:Jb)(d:PyData):Y1 K (.type (xY d)) (.type "bool")=some (D0 d "bool")/\Y1 K (.type (xY d)) (.type "int")=some (D0 d "int")/\Y1 K (.type (xY d)) (.type "str")=some (D0 d "str") /\
  Y1 K (.type (xY d)) (.type "list")=some (D0 d "list")/\Y1 K (.type (xY d)) (.type "tuple")=some (D0 d "tuple"):=by
 cases d<;>exact⟨rfl,rfl,rfl,rfl,rfl⟩
section
variable {X:Cx}
theorem zQ {pins:List (Addr×Obj)}{σ:St}{H:Hp}{s:Shared}{x:V}{u:Value}{d:PyData}(I:Inv X pins σ H s)(rx:RelV x u)(h:Den X.K H d x):∃HH:Heap->Prop,PySem.W.KitX X.K u (.type (xY d)) HH/\HH s.heap/\u ≠ .builtin "__main__.__loader__#opaque":=by
 cases d with
 | none=>unfold Den at h;subst h;cases rx;exact⟨_,PySem.W.kitx_none,True.intro,fun z=>nomatch z⟩
 | bool b=>unfold Den at h;subst h;cases rx;exact⟨_,PySem.W.kitx_bool,True.intro,fun z=>nomatch z⟩
 | int i=>unfold Den at h;subst h;obtain⟨t,rfl⟩:=rx;exact⟨_,PySem.W.kitx_int,True.intro,fun z=>nomatch z⟩
 | str y=>unfold Den at h;subst h;obtain⟨t,rfl⟩:=rx;exact⟨_,PySem.W.kitx_str,True.intro,fun z=>nomatch z⟩
 | list ds=>
  unfold Den at h
  refine ae.el (h) _ ?_
  rintro a vs rfl h2 _
  cases rx
  obtain⟨av,_,⟨o,n,e1,e2,_⟩,_⟩:=I.list h2
  exact⟨_,PySem.W.kitx_list,⟨o,e1,e2⟩,fun z=>nomatch z⟩
 | tuple ds=>
  unfold Den at h
  refine ae.el (h) _ ?_
  rintro a vs rfl h2 _
  cases rx
  obtain⟨av,_,⟨o,e1,e2,_⟩,_⟩:=I.tuple h2
  exact⟨_,PySem.W.kitx_tuple,⟨o,e1,e2⟩,fun z=>nomatch z⟩
 | dict _=>unfold Den at h;exact h.elim
theorem uA:cn X (.builtin "isinstance") (fun xs H Q=>∃(x:V) (T:String) (d:PyData) (b:Bool),xs=[x,.ty T]/\Den X.K H d x/\Y1 X.K (.type (xY d)) (.type T)=some b/\Q (.bl b) H):=by
 intro pins s σ H xs us Q I r h
 refine ae.el (h) _ ?_
 rintro x T d b rfl hd e q
 refine ae.el (vals2 r) _ ?_
 rintro u w' rfl r1 r2
 cases r2
 refine ae.el (zQ I r1 hd) _ ?_
 rintro HH Z hh hx
 exact Yi Z I.lV hh e hx fun tk=>⟨.bl b,H,I.tok _,rfl,q⟩
def LO (K:Jb):List V->Hp->VK->Prop:=fun xs H Q=>(∃(x:V) (T:String) (d:PyData) (b:Bool),xs=[x,.ty T]/\Den K H d x/\Y1 K (.type (xY d)) (.type T)=some b/\Q (.bl b) H) ∨
 ∃x T t b,xs=[x,.ty T]/\i6 K H x t/\Y1 K t (.type T)=some b/\Q (.bl b) H
theorem lJ (K:Jb)(hK:X.K=K:=by rfl):cn X (.builtin "isinstance") (LO K):=by subst hK;exact uA.or wA
end
section
variable {X:Cx}{e:Expr}{te:TE}{pos p2 p3 p4:Pos}{j:Nat}
theorem Vals.rev:∀{xs:List V} {us:List Value},Vals xs us->Vals xs.reverse us.reverse:=by
 intro xs us t
 induction t with
 | nil=>exact .nil
 | cons r _ ih=>
  rw[List.reverse_cons,List.reverse_cons]
  exact ih.append (.cons r .nil)
end
section
variable {X:Cx}(K:Jb)
theorem OQ (hK:X.K=K:=by rfl):dB X (compareOp .In) (GO K false):=by subst hK;exact uf
theorem Ck (hK:X.K=K:=by rfl):dB X (compareOp .NotIn) (GO K true):=by subst hK;exact nu
end
section
variable {prog:Program}{w:World}{A:Around}{R:Result->Shared->Prop}{s:Shared}
theorem pU {kx vx target iter:Expr}{ifs:List Expr}{scope:Scope}{pos:Pos}{it:Value}{D:Addr}{env:Env}(I:Nat->Shared->Prop)
  (turn:∀n s,I n s->wpAny (model prog w) A (pyNext it) (fun r s1=>match r with
   | none=>R (.ok .next) s1
   | some v=>wpAny (model prog w) A (letOwnedTupleGo target it v) (fun _ s1'=>wpAny (model prog w) A (assign target env v) (fun _ s2=>
     wpAny (model prog w) A (nc ifs env) (fun ok s3=>
      if ok=true then wpAny (model prog w) A (eval kx env) (fun kv s4=>wpAny (model prog w) A (eval vx env) (fun vv s5=>
       wpAny (model prog w) A (dictSet D kv vv) (fun _ s6=>∃m,m<n/\I m s6) fN s5) fN s4) fN s3
      else ∃m,m<n/\I m s3) fN s2) fN s1') fN s1) fN s)
  (n:Nat) (h:I n s):codeAny (model prog w) A (.compLoop (.DictComp kx vx [⟨target,iter,ifs,0⟩] scope pos) 0 it (.ref D) env) R s:=by
 refine codeAny_loop rfl I (fun n s hI=>(show wpAny _ A (Sem.onRaise (compTurn (.DictComp kx vx [⟨target,iter,ifs,0⟩] scope pos) 0 it (.ref D) env) (fun x=>do noteFrame x env;theTreesLotGoes x)) _ _ s from wpAny_noted ?_)) n h
 rw[compTurn_dict]
 refine wpAny_bind (wpAny_standAt (wpAny_bind (bp (aR (turn n s hI) fun r s1 h1 =>?_))))
 cases r with
 | none=>exact wpAny_pure h1
 | some v=>
  refine wpAny_bind (bp (aR h1 fun _ s1' h1' =>?_))
  refine wpAny_bind (bp (aR h1' fun _ s2 h2=>wpAny_bind (bp (aR h2 fun ok s3 h3 =>?_))))
  cases ok with
  | false=>exact wpAny_pure ⟨rfl,h3⟩
  | true=>
   exact wpAny_bind (wpAny_bind (bp (aR h3 fun kv s4 h4=>wpAny_bind (wpAny_holding (bp (aR h4 fun vv s5 h5=>wpAny_bind (wpAny_standAt (wpAny_holding (bp (aR h5 fun _ s6 h6=>wpAny_pure ⟨rfl,h6⟩))))))))))
end
section
variable {X:Cx}{pins:List (Addr×Obj)}{σ:St}{H:Hp}{s:Shared}{a:Addr}{y v:V}{u r:Value}{A:Around}{E:Value->Shared->Prop}
theorem lY {kvs:List (Key×V)}{k:Key}{Q:Unit->Shared->Prop}(I:Inv X pins σ H s)(e:H a=some (.dK kvs))(l:kvs.length<sizeLine)(ry:RelV (kV k) u)(rv:RelV v r)
  (h:∀s',Inv X pins σ (upd H a (.dK (putK kvs k v))) s'->Q () s'):wpAny (model X.prog X.w) A (dictSet a u r) Q E s:=by
 refine ae.el (xp I.aZ e) _ ?_
 rintro z hd vs rel dd
 have hz:vs.length<=sizeLine:=by rw[<-rel.length];exact z
 have hl:(putK kvs k v).length<=sizeLine:=by have:=eE kvs k v;omega
 refine wpAny_dictSet_pairs (hsz:=hz) (jD ry) dd fun h' dd' hs=>h _ ?_
 have he:∃q,h'.get? a=some q:=let ⟨q,_,_,hq,_⟩:=dd'; ⟨q,hq⟩
 exact gP I (by rw[e];exact True.intro) hs he (nN hl hd (rel.put k rv) dd')
end
section
variable {X:Cx}{pins:List (Addr×Obj)}{σ:St}{H:Hp}{s:Shared}{scope:Scope}{Nc Fc:List Str}{js:List Nat}{cl:List (Str×Addr)}{C:Addr}{fp:List Addr}
theorem qg (I:Inv X pins σ H s)(c:dC X scope Nc Fc js)(dk:∀n c,cl.lookup n=some c->X.env.cells.lookup n=some c)(g6:∀y∈scope.names,y.2 = .free->∃c,cl.lookup y.1=some c)
  (hC:s.heap.objs.size<=C) (hf:∀b∈fp,eg X pins H b) (ho:∀b∈fp,∃o,s.heap.get? b=some o) {h1:Heap} {t1:Nat} {m:Str->Option Value}
  (hk:∀b o,s.heap.get? b=some o->h1.get? b=some o) (hm:h1.Ns C m) :
  Inv (ff X Nc Fc scope cl C s H fp) [] (Jq Nc.length none++cL σ js) H { s with heap:=h1,toks:=t1 }:=by
 refine⟨ko I c dk g6 hC hf ho,rfl,I.bare,Un.kept hk,⟨m,hm,fun i x v e1 e2 e3 =>?_⟩,fun x a e =>?_,I.aZ.fresh hC,fun x a e=>I.freeC x a (dk x a e),fun p hp =>?_,I.aZ.kept hk,?_⟩
 ·have e1:(Nc++Fc)[i]? = some x:=e1
  have e2:(Jq Nc.length none++cL σ js)[i]? = some (some v):=e2
  by_cases hi:i<Nc.length
  ·rw[Ut (by simpa using hi),Yz] at e2
   split at e2<;>cases e2
  ·rw[Ui (by omega)] at e1
   rw[Ui (by rw[Uy];omega),Uy] at e2
   refine ae.el (c.frees _ _ e1) _ ?_
   rintro t9 j hj hN
   have hv: σ[j]? = some (some v):=by
    unfold cL at e2
    rw[Jj,hj] at e2
    have e2:some ((σ[j]?).join)=some (some v):=e2
    cases q: σ[j]? with
    | none=>rw[q] at e2;cases e2
    | some z=>rw[q] at e2;cases e2;rfl
   have kx:=c.free _ (bP t9) rfl
   refine ae.el (I.loc) _ ?_
   rintro m0 MB hl0
   have Gw:C6 X.env.scope x:=by
    rcases kx with k|k
    ·exact .inr (.inl k)
    ·exact .inr (.inr k)
   refine ae.el (hl0 j x v hN hv Gw) _ ?_
   rintro u ru lk
   refine⟨u,ru,.inr ⟨?_,?_⟩⟩
   ·rw[kH];exact dE t9
   ·obtain⟨a,ha⟩:=g6 _ (bP t9) rfl
    refine⟨a,ha,?_⟩
    rcases lk with ⟨k,_⟩|⟨_,a',ha',hcell⟩
    ·rcases kx with q|q<;>(rw[k] at q;cases q)
    ·have e:=dk _ _ ha
     dsimp only at e
     rw[ha'] at e;cases e
     exact hcell.keeps hk
 ·obtain⟨v,z⟩:=I.cell x a (dk x a e)
  exact⟨v,z.keeps hk⟩
 ·have hp:p∈([]:List (Addr×Obj)):=hp
  cases hp
 ·show(Jq Nc.length none++cL σ js).length=(Nc++Fc).length
  unfold cL
  rw[Jc,Jc,Uy,Ja,c.lens]
end
def tL (J:It)(n:Nat)(js:List Nat)(g:TG)(tc:TT)(tk tv:TE)(σ:St)(D:Addr)(H1:Hp)(fin:Hp->Prop):Prop:=
 ∃W:Nat->Nat->Hp->Prop,(∃m,W 0 m H1)/\∀i m H,W i m H ->
  (J.stop i H/\fin H) ∨
  (J.go i H/\∀x H',J.yld i H x H'->g x (Jq n none++cL σ js) H' fun σ2 H2=>tc σ2 H2 fun b H3=>
   if b=true then tk σ2 H3 fun y H4=>tv σ2 H4 fun z H5=>ck fun kvs k=>H5 D=some (.dK kvs)/\y=kV k/\kvs.length<sizeLine/\∃m',m'<m/\W (i+1) m' (upd H5 D (.dK (putK kvs k z))) else ∃m',m'<m/\W (i+1) m' H3)
def je (wi:TI)(n:Nat)(js:List Nat)(g:TG)(tc:TT)(tk tv:TE):TE:=fun σ H Q=>wi σ H fun J H1=>∀D,H1 D=none->tL J n js g tc tk tv σ D (upd H1 D (.dK [])) fun H2=>Q (.ref D) H2
theorem kb {X:Cx}{kx vx tg iter:Expr}{ifs:List Expr}{scope:Scope}{pos:Pos}{Nc Fc:List Str}{js:List Nat}{wi:TI}{g:TG}{tc:TT}{tk tv:TE}{use:Option (Value->Sem Unit)}{QV:Value->Shared->Prop}
  (cJ:X.calm=true) (c:dC X scope Nc Fc js) (hi:PI X tg iter wi)
  (hg:∀cl C s H fp,PG (ff X Nc Fc scope cl C s H fp) tg g) (vP:∀cl C s H fp,Aw (ff X Nc Fc scope cl C s H fp) ifs tc) (cC:∀cl C s H fp,PE (ff X Nc Fc scope cl C s H fp) kx tk) (u6:∀cl C s H fp,PE (ff X Nc Fc scope cl C s H fp) vx tv) (gk:Gk Nc.length g)
  {pins:List (Addr×Obj)} {s:Shared} {σ:St} {H:Hp} {fin:Addr->Hp->Prop} (I:Inv X pins σ H s)
  (h:wi σ H fun J H1=>∀D,H1 D=none->tL J Nc.length js g tc tk tv σ D (upd H1 D (.dK [])) (fin D))
  (behind:∀(C D:Addr) (m:Str->Option Value) (H2:Hp) (s2:Shared),Inv X pins σ H2 s2->s2.heap.Ns C m->eg X pins H2 C->fin D H2->compPost (model X.prog X.w) X.A X.xe use QV (.ref D) C (.ok .next) s2)
  (hs:∀x,foldedSetIterable iter X.env x=pure x) :
  wpAny (model X.prog X.w) X.A (comprehension (.DictComp kx vx [⟨tg,iter,ifs,0⟩] scope pos) scope X.env (firstIterPos [⟨tg,iter,ifs,0⟩] pos) newDict false (eval iter X.env) use) QV X.xe s:=by
 obtain⟨cl,hclos,dk,g6⟩:=iq (scope:=scope) (env:=X.env) fun y hy hf=>I.ok.has y.1 (c.free y hy hf)
 refine wpAny_comprehension_free (use:=use) rfl hs hclos c.kind c.names ?_
 refine aR (hi s σ H _ I h) fun v s1 h1=>aR h1 fun Dk s2 h2 =>?_
 obtain⟨it,fp,tn,J,H2,e,I2,T,bG,f2,all⟩:=h2
 subst e
 refine wpAny_newObj_type (wpAny_newFunctionEnv c.nocell (by intro y hy;simp at hy) (fun h1 hns1 hsb1 =>?_) c.kind)
 dsimp only at hns1 hsb1 ⊢
 have yR:H2 s2.heap.objs.size=none:=I2.aZ.fresh (Jd _)
 have xg:=I2.laid (a:=s2.heap.objs.size) (o := .dK []) (h':=s2.heap.push { cls := .type "dict",data := .dict #[] }) (t':=s2.toks) (fun _ _ q=>Je _ q) (Jd _) (iD s2.heap I2.big)
 obtain⟨W,⟨m0,w0⟩,turn⟩:=all _ yR
 have Dx:∀b∈fp,∃o,s2.heap.get? b=some o:=fun b hb=>let ⟨o,e,_⟩:=T.obj 0 _ bG b hb; ⟨o,e⟩
 have lr:∀b∈fp,b<s2.heap.objs.size:=fun b hb=>let ⟨o,e⟩:=Dx b hb;Jo e
 generalize hG:s2.heap.push { cls := .type "dict",dict:=none,data := .dict #[] } = G at hns1 hsb1 xg ⊢
 have toG:∀b o,s2.heap.get? b=some o->G.get? b=some o:=fun b o e=>hG▸Je _ e
 have hC:G.objs.size=s2.heap.objs.size+1:=by rw[<-hG,Wx]
 have old:∀b o,G.get? b=some o->h1.get? b=some o:=fun b o e=>
  hsb1.extBut b o (cq (Jo e) (Jd _)) (Je _ e)
 let D:Addr:=s2.heap.objs.size
 let s2':Shared:={ s2 with heap:=G,toks:=s2.toks }
 let H2':Hp:=upd H2 D (.dK [])
 have Bo:∀b∈fp,eg X pins H2' b:=fun b hb=>by
  obtain⟨a1,a2⟩:=f2 b hb
  refine⟨?_,a2⟩
  show upd H2 D (.dK []) b=none
  rw[aq (J8 (lr b hb))];exact a1
 have fo:∀b∈fp,∃o,s2'.heap.get? b=some o:=fun b hb=>let ⟨o,e⟩:=Dx b hb; ⟨o,toG b o e⟩
 have LQ:∀b∈fp,b<G.objs.size:=fun b hb=>by have:=lr b hb;rw[hC];exact Wr this
 let Xc:Cx:=ff X Nc Fc scope cl G.objs.size s2' H2' fp
 have fI:∀{H':Hp},(∀b∈fp,H' b=none)->∀b∈fp,eg Xc [] H' b:=fun{H'} hn b hb=>by
  refine⟨hn b hb,?_,?_,.inl hb,fun x a e =>?_,fun p hq =>?_⟩
  ·exact cq (LQ b hb) (Jd _)
  ·exact(ko xg c dk g6 (Jd _) Bo fo).exfs b hb
  ·exact(f2 b hb).2.2.2.2.1 x a (dk _ _ e)
  ·have q:p∈([]:List (Addr×Obj))++[]:=hq
   simp at q
 have loop:∀t1,codeAny (model X.prog X.w) X.A (.compLoop (.DictComp kx vx [⟨tg,iter,ifs,0⟩] scope pos) 0 (.ref it) (.ref s2.heap.objs.size) (compEnvC scope cl G.objs.size X.env))
   (compPost (model X.prog X.w) X.A X.xe use QV (.ref s2.heap.objs.size) G.objs.size) { s2 with heap:=h1,toks:=t1 }:=by
  intro t1
  refine pU (fun n s'=>∃i H',Inv Xc [] (Jq Nc.length none++cL σ js) H' s'/\tn i s'.heap/\(∀b∈fp,H' b=none)/\W i n H') ?_ m0
   ⟨0,H2',qg xg c dk g6 (Jd _) Bo fo old hns1,T.keep _ _ _ bG (fun b hb o e=>old b o (toG b o e)),fun b hb=>(Bo b hb).1,w0⟩
  intro n s3
  refine ae.go ?_
  rintro i H3 I3 cR fr3 w3
  rcases turn i n H3 w3 with ⟨stop,qn⟩|⟨go,step⟩
  ·refine aR (T.done Xc rfl rfl rfl cJ i _ s3 _ H3 fN I3 (fI fr3) cR stop) fun r s4 hz_ =>?_
   refine ae.el hz_ _ ?_
   clear hz_
   rintro hr I4
   subst hr
   show compPost _ _ _ _ _ _ _ _ _
   refine ae.el (I4.loc) _ ?_
   rintro mC hmC _
   have D5:H3 G.objs.size=none:=I4.free
   have u:Un (i8 X.stack) fp H2' H3 G s4.heap:=I4.base
   have qo:∀b∈fp,(b∈X.ex∨X.s₀.heap.objs.size<=b)/\b≠X.env.locals/\(∀x c,X.env.cells.lookup x=some c->c≠b)/\∀p∈X.pn++pins,p.1≠b:=fun b hb=>
    ⟨(f2 b hb).2.2.2.1,(f2 b hb).2.1,(f2 b hb).2.2.2.2.1,(f2 b hb).2.2.2.2.2⟩
   have Ek:s4.os=s2'.os:=I4.os
   have J4:Inv X pins σ H3 s4:=xg.pF (H':=H3) Ek u I4.aZ I4.bare qo
   exact behind G.objs.size D mC H3 s4 J4 hmC (xg.kj (Jd _) D5) qn
  ·refine aR (T.item Xc rfl rfl rfl cJ i _ s3 _ H3 fN I3 (fI fr3) cR go) fun r s4 hz_ =>?_
   refine ae.el hz_ _ ?_
   clear hz_
   rintro u hr h4
   subst hr
   show wpAny _ _ (letOwnedTupleGo tg (.ref it) u) _ _ _
   refine aR h4 fun _ s5 hz_ =>?_
   refine ae.el hz_ _ ?_
   clear hz_
   rintro x H5 I5 r5 y5 df fr5
   have yC:=I5.pinned (fI fr5) (T.obj _ _ df)
   refine aR (hg cl G.objs.size s2' H2' fp s5 _ H5 x u _ yC r5 (gk _ _ _ _ (step x H5 y5))) fun _ s6 hz_ =>?_
   refine ae.el hz_ _ ?_
   clear hz_
   rintro σ6 H6 I6 q6 kσ kl
   refine aR (vP cl G.objs.size s2' H2' fp s6 σ6 H6 _ I6 q6) fun b s7 hz_ =>?_
   refine ae.el hz_ _ ?_
   clear hz_
   rintro H7 I7 q7
   have later:∀{σ':St} {H':Hp} {s':Shared},Inv Xc ([]++dS fp s5.heap) σ' H' s'->tn (i+1) s'.heap/\∀b∈fp,H' b=none:=fun{σ' H' s'} Iz=>by
    refine⟨T.keep _ _ _ df fun b hb o e=>(Iz.pin (b,o) (Jk _ (Jk _ (bJ hb e)))).1,fun b hb =>?_⟩
    refine ae.el (T.obj _ _ df b hb) _ ?_
    rintro o e d
    exact(Iz.pin (b,o) (Jk _ (Jk _ (bJ hb e)))).2.1
   have back:∀{pl:List (Addr×Obj)} {H':Hp} {s':Shared},Inv Xc pl σ6 H' s'->Inv Xc pl (Jq Nc.length none++cL σ js) H' s':=fun{pl H' s'} Iz=>by
    refine Iz.weak (by rw[<-kl]) fun j v hj =>?_
    by_cases hn:j<Nc.length
    ·rw[Ut (by simpa using hn),Yz] at hj
     split at hj<;>cases hj
    ·rw[kσ j (by omega)];exact hj
   cases b with
   | false=>
    rw[if_neg Jm] at q7 ⊢
    refine ae.el (q7) _ ?_
    rintro m' rN w7
    obtain⟨l1,l2⟩:=later I7
    exact⟨m',rN,i+1,H7,back I7.cW,l1,l2,w7⟩
   | true=>
    rw[if_pos rfl] at q7 ⊢
    refine aR (cC cl G.objs.size s2' H2' fp s7 σ6 H7 _ I7 q7) fun yv s8 hz_ =>?_
    refine ae.el hz_ _ ?_
    clear hz_
    rintro y H8 I8 r8 q8
    refine aR (u6 cl G.objs.size s2' H2' fp s8 σ6 H8 _ I8 q8) fun zv s9 hz_ =>?_
    refine ae.el hz_ _ ?_
    clear hz_
    rintro z H9 I9 r9 q9
    refine ae.el (q9) _ ?_
    rintro kvs k eD ey hl m' rN w9
    subst ey
    refine lY (X:=Xc) I9 eD hl r8 r9 fun s10 I10 =>?_
    obtain⟨l1,l2⟩:=later I10
    exact⟨m',rN,i+1,_,back I10.cW,l1,l2,w9⟩
 exact codeAny_compStart_dict (loop _) (T.self _ 0 _ _ _ (T.keep _ _ _ bG fun b hb o e=>old b o (toG b o e)) (loop _))
theorem iP {X:Cx}{kx vx tg iter:Expr}{ifs:List Expr}{scope:Scope}{pos:Pos}{Nc Fc:List Str}{js:List Nat}{wi:TI}{g:TG}{tc:TT}{tk tv:TE}
  (cJ:X.calm=true) (c:dC X scope Nc Fc js) (hi:PI X tg iter wi) (gk:Gk Nc.length g)
  (hg:∀cl C s H fp,PG (ff X Nc Fc scope cl C s H fp) tg g) (vP:∀cl C s H fp,Aw (ff X Nc Fc scope cl C s H fp) ifs tc) (cC:∀cl C s H fp,PE (ff X Nc Fc scope cl C s H fp) kx tk) (u6:∀cl C s H fp,PE (ff X Nc Fc scope cl C s H fp) vx tv)
  (hs:∀x,foldedSetIterable iter X.env x=pure x:=by intro _;rfl) :
  PE X (.DictComp kx vx [⟨tg,iter,ifs,0⟩] scope pos) (je wi Nc.length js g tc tk tv):=by
 intro pins s σ H Q I h
 rw[arm_eval_DictComp]
 refine kb (use:=none) (fin:=fun D H2=>Q (.ref D) H2) cJ c hi hg vP cC u6 gk I h (fun C D m H2 s2 I2 hm hC q =>?_) hs
 refine⟨m,hm,fun h' hs' =>?_⟩
 exact⟨.ref D,_,I2.turned (it:=C) (t':=s2.toks) (fun b o hb e=>hs'.extBut b o hb e) hC.1 (hC.2.1) hC.2.2.2.1 hC.2.2.2.2.1 hC.2.2.2.2.2,rfl,q⟩
theorem ph {X:Cx}{i:Nat}{y:Str}{kx vx tg iter:Expr}{ifs:List Expr}{scope:Scope}{pos pos' py:Pos}{Nc Fc:List Str}{js:List Nat}{wi:TI}{g:TG}{tc:TT}{tk tv:TE}(hN:X.N.Nodup)(hy:X.N[i]? = some y)(hl:Loc X.env.scope y)
  (cJ:X.calm=true) (c:dC X scope Nc Fc js) (hi:PI X tg iter wi) (gk:Gk Nc.length g)
  (hg:∀cl C s H fp,PG (ff X Nc Fc scope cl C s H fp) tg g) (vP:∀cl C s H fp,Aw (ff X Nc Fc scope cl C s H fp) ifs tc) (cC:∀cl C s H fp,PE (ff X Nc Fc scope cl C s H fp) kx tk) (u6:∀cl C s H fp,PE (ff X Nc Fc scope cl C s H fp) vx tv)
  (JO:swapsWith (.DictComp kx vx [⟨tg,iter,ifs,0⟩] scope pos) (some (.Name y py)) pos'.line X.env=pure true:=by rfl)
  (hs:∀x,foldedSetIterable iter X.env x=pure x:=by intro _;rfl)
  (hf:X.fn y=true∨X.env.scope.names.lookup y=some .local:=by first|exact .inl rfl|exact .inr rfl|assumption) :
  PS X (.Assign [.Name y py] (.DictComp kx vx [⟨tg,iter,ifs,0⟩] scope pos) pos') (u3 (je wi Nc.length js g tc tk tv) (di i)):=by
 intro pins s σ H E I h
 rw[exec_Assign_Name_used _ _ _ _ JO]
 refine wpAny_bind (wpAny_standAt (wpAny_bind ?_))
 show wpAny _ X.A (do let _ <-comprehension (.DictComp kx vx [⟨tg,iter,ifs,0⟩] scope pos) scope X.env _ newDict false (eval iter X.env) (some (assign (.Name y py) X.env))) _ _ s
 refine wpAny_bind (aR (kb (use:=some (assign (.Name y py) X.env)) (fin:=fun D H2=>di i (.ref D) σ H2 E.nx) (QV:=fun _ s'=>SP X pins E .next s') cJ c hi hg vP cC u6 gk I h (fun C D m H2 s2 I2 hm hC q =>?_) hs) fun _ s' hq=>wpAny_pure (wpAny_pure hq))
 show wpAny _ _ (assign (.Name y py) X.env (.ref D)) _ _ s2
 refine wpAny_assign_Name (jb I2 hN hy hl (v := .ref D) rfl (fun s3 I3 hz_=>ae.el hz_ _ fun a u9 ha =>?_) hf)
 have jH:C≠a:=by
  rcases ha with e|e
  ·rw[e];exact hC.2.1
  ·exact fun z=>hC.2.2.2.2.1 _ _ e z.symm
 refine⟨m,hm.at' fun o e=>u9.extBut _ o jH e,fun h' hs' =>?_⟩
 exact⟨_,_,I3.turned (it:=C) (t':=s3.toks) (fun b o hb e=>hs'.extBut b o hb e) hC.1 hC.2.1 hC.2.2.2.1 hC.2.2.2.2.1 hC.2.2.2.2.2,q⟩
section
variable {prog:Program}{w:World}{A:Around}{E:Value->Shared->Prop}{s:Shared}{a₀:Array Keyed}{key:Keyed->Int}{kd:SortKind}
def iC (prog:Program)(w:World)(A:Around)(E:Value->Shared->Prop)(s:Shared)(a₀:Array Keyed)(key:Keyed->Int)(kd:SortKind):Prop:=
 ∀(st:SortSt) (x y:Keyed) (Q:Option Bool->SortSt->Prop),x∈a₀.toList->y∈a₀.toList->kindOf st=kd->Q (some (decide (key x<key y))) st->wpS (model prog w) A E s (lt' x y) Q st
noncomputable def ky (key:Keyed->Int)(xs:Array Keyed)(i:Nat):Int:=match xs[i]? with
 | some p=>key p
 | none=>0
theorem cS {xs ys:Array Keyed}{i j:Nat}(h:xs[i]? = ys[j]?):ky key xs i=ky key ys j:=by unfold ky;rw[h]
theorem cZ {xs:Array Keyed}{i:Nat}{p:Keyed}(h:xs[i]? = some p):ky key xs i=key p:=by unfold ky;rw[h]
structure Af (a₀:Array Keyed)(kd:SortKind)(lo:Nat)(hJ st:SortSt):Prop where
 perm:(arrOf st).Perm a₀
 kind:kindOf st=kd
 failed:failedOf st=none
 pend:pendingOf st=pendingOf hJ
 low:∀i,i<lo->(arrOf st)[i]? = (arrOf hJ)[i]?
theorem Af.size {lo:Nat}{hJ st:SortSt}(h:Af a₀ kd lo hJ st):(arrOf st).size=a₀.size:=h.perm.size_eq
theorem Af.set {lo:Nat}{hJ st:SortSt}(h:Af a₀ kd lo hJ st){xs:Array Keyed}(hp:xs.Perm (arrOf st))(hl:∀i,i<lo->xs[i]? = (arrOf st)[i]?):Af a₀ kd lo hJ (setArr st xs):=
 ⟨hp.trans h.perm,h.kind,h.failed,h.pend,fun i hi=>(hl i hi).trans (h.low i hi)⟩
theorem wu {xs:Array Keyed}(hp:xs.Perm a₀){i:Nat}{p:Keyed}(h:xs[i]? = some p):p∈a₀.toList:=by
 refine(Wk.mp hp).mem_iff.mp ?_
 exact Array.mem_toList_iff.mpr (Array.mem_of_getElem? h)
theorem gR {xs:Array Keyed}{i:Nat}{st:SortSt}{Q:Keyed->SortSt->Prop}(hi:i<xs.size)(h:∀p,xs[i]? = some p->Q p st):wpS (model prog w) A E s (elem' xs i) Q st:=by
 rw[elem'_eq,getElem?_pos xs i hi]
 exact wpS_pure (h _ (getElem?_pos xs i hi))
theorem y8 {st:SortSt}{i j:Nat}{Q:Option Bool->SortSt->Prop}(hL:iC prog w A E s a₀ key kd)(hp:(arrOf st).Perm a₀)(hk:kindOf st=kd)(hi:i<a₀.size)(hj:j<a₀.size)
  (h:Q (some (decide (ky key (arrOf st) i<ky key (arrOf st) j))) st):wpS (model prog w) A E s (ltAt' i j) Q st:=by
 rw[ltAt'_eq]
 refine wpS_bind (wpS_get ?_)
 show wpS _ _ _ _ (do let x <-elem' (arrOf st) i;let y <-elem' (arrOf st) j;lt' x y) Q st
 have hs:=hp.size_eq
 refine wpS_bind (gR (by omega) fun p e1=>wpS_bind (gR (by omega) fun q e2 =>?_))
 refine hL _ _ _ _ (wu hp e1) (wu hp e2) hk ?_
 rw[cZ e1,cZ e2] at h
 exact h
theorem Af.lt {lo:Nat}{hJ st:SortSt}{i j:Nat}{Q:Option Bool->SortSt->Prop}(h:Af a₀ kd lo hJ st)(hL:iC prog w A E s a₀ key kd)(hi:i<a₀.size)(hj:j<a₀.size)
  (q:Q (some (decide (ky key (arrOf st) i<ky key (arrOf st) j))) st):wpS (model prog w) A E s (ltAt' i j) Q st:=y8 hL h.perm h.kind hi hj q
def Sg (key:Keyed->Int)(xs:Array Keyed)(i j:Nat):Prop:=∀p q,i<=p->p<=q->q<j->ky key xs p<=ky key xs q
def Ng (key:Keyed->Int)(xs:Array Keyed)(i j:Nat):Prop:=∀p q,i<=p->p<=q->q<j->ky key xs q<=ky key xs p
theorem jk {xs:Array Keyed}{i j:Nat}(hj:j<=xs.size)(k:Nat):
  ky key (mirror xs i j ((j-i) / 2)) k=if i<=k/\k<j then ky key xs (i+j-1-k) else ky key xs k:=by
 have e:=getElem?_mirror_all (i:=i) hj k
 by_cases h1:i<=k/\k<j
 ·rw[if_pos h1] at e ⊢;exact cS e
 ·rw[if_neg h1] at e ⊢;exact cS e
theorem rj {xs:Array Keyed}{i j lo:Nat}(hj:j<=xs.size)(hi:lo<=i):∀k,k<lo->(mirror xs i j ((j-i) / 2))[k]? = xs[k]?:=fun k hk=>by
 rw[getElem?_mirror_all hj,if_neg (by omega)]
theorem cf {xs:Array Keyed}{i j:Nat}(hj:j<=xs.size)(heq:∀k,i<=k->k<j->ky key xs k=ky key xs (j-1))(k:Nat):
  ky key (mirror xs i j ((j-i) / 2)) k=ky key xs k:=by
 rw[jk hj]
 split
 ·rw[heq _ (by omega) (by omega),heq k (by omega) (by omega)]
 ·rfl
theorem Af.rev {lo i j:Nat}{hJ st:SortSt}(h:Af a₀ kd lo hJ st)(hi:lo<=i)(hj:j<=a₀.size):Af a₀ kd lo hJ (setArr st (mirror (arrOf st) i j ((j-i) / 2))):=
 h.set (mirror_perm _ _ _ _) (rj (by rw[h.size];exact hj) hi)
noncomputable def wI (lo a bI:Nat):StateT SortSt Sem AscSt:=
 forIn [a:bI] ((none,a):AscSt) fun _ c=>do
  let x <-ltAt' (lo+c.snd) (lo+c.snd-1)
  match x with
  | some smaller=>if smaller=true then pure (ForInStep.done (none,c.snd)) else pure (ForInStep.yield (none,c.snd+1))
  | _=>pure (ForInStep.done (some none,c.snd))
noncomputable def oU (lo n bI:Nat):StateT SortSt Sem (Option Nat):=do
 reverseSlice' lo (lo+n)
 let c <-wI lo n bI
 match c.fst with
 | some r=>pure r
 | none=>pure (some c.snd)
noncomputable def tf (lo n bI:Nat):StateT SortSt Sem DescSt:=
 forIn [n:bI] ((none,n,0):DescSt) fun _ c=>do
  let x <-ltAt' (lo+c.snd.fst) (lo+c.snd.fst-1)
  match x with
  | some smaller=>
   if smaller=true then
    if c.snd.snd>0 then do
     reverseSlice' (lo+c.snd.fst-(c.snd.snd+1)) (lo+c.snd.fst)
     pure (ForInStep.yield (none,c.snd.fst+1,0))
    else pure (ForInStep.yield (none,c.snd.fst+1,0))
   else do
    let x <-ltAt' (lo+c.snd.fst-1) (lo+c.snd.fst)
    match x with
    | some larger=>
     if larger=true then pure (ForInStep.done (none,c.snd.fst,c.snd.snd))
     else pure (ForInStep.yield (none,c.snd.fst+1,c.snd.snd+1))
    | _=>pure (ForInStep.done (some none,c.snd.fst,c.snd.snd))
  | _=>pure (ForInStep.done (some none,c.snd.fst,c.snd.snd))
noncomputable def oQ (lo n bI:Nat):StateT SortSt Sem (Option Nat):=do
 liftM (rule "list.sort.descending-run")
 let c <-tf lo (n+1) bI
 match c.fst with
 | some r=>pure r
 | none=>
  if c.snd.snd>0 then do
   reverseSlice' (lo+c.snd.fst-(c.snd.snd+1)) (lo+c.snd.fst)
   oU lo c.snd.fst bI
  else oU lo c.snd.fst bI
theorem uI (lo bI:Nat):countRun' lo bI=(do
  let c <-wI lo 1 bI
  match c.fst with
  | some r=>pure r
  | none=>
   if (c.snd==bI)=true then pure (some c.snd)
   else if c.snd>1 then do
    let x <-ltAt' lo (lo+c.snd-1)
    match x with
    | some rose=>if rose=true then pure (some c.snd) else do
      reverseSlice' lo (lo+c.snd)
      oQ lo c.snd bI
    | _=>pure none
   else oQ lo c.snd bI):=by
 rw[countRun'_eq]
 dsimp only
 unfold oQ oU tf wI
 congr 1
 funext c
 obtain⟨r,n⟩:=c
 cases r with
 | some r=>rfl
 | none=>
  dsimp only
  split
  ·rfl
  ·split
   ·congr 1
    funext x
    cases x with
    | none=>rfl
    | some rose=>
     dsimp only
     split
     ·rfl
     ·congr 1
      funext _r
      congr 1;funext _u;congr 1;congr 1;funext s2;obtain⟨r2,n2,q2⟩:=s2
      cases r2 with
      | some r2=>rfl
      | none=>(dsimp only;split; (congr 1;funext _v; (congr 1;funext _w;congr 1; (funext s3;obtain⟨r3,n3⟩:=s3;cases r3<;>rfl))); (congr 1;funext _w;congr 1; (funext s3;obtain⟨r3,n3⟩:=s3;cases r3<;>rfl)))
   ·congr 1;funext _u;congr 1;congr 1;funext s2;obtain⟨r2,n2,q2⟩:=s2
    cases r2 with
    | some r2=>rfl
    | none=>(dsimp only;split; (congr 1;funext _v; (congr 1;funext _w;congr 1; (funext s3;obtain⟨r3,n3⟩:=s3;cases r3<;>rfl))); (congr 1;funext _w;congr 1; (funext s3;obtain⟨r3,n3⟩:=s3;cases r3<;>rfl)))
theorem vA {hJ st:SortSt}{lo a bI:Nat}{Q:AscSt->SortSt->Prop}(hL:iC prog w A E s a₀ key kd)(hn:lo+bI<=a₀.size)(ha:1<=a)(OI:a<=bI)(hB:Af a₀ kd lo hJ st)
  (hs:Sg key (arrOf st) lo (lo+a))
  (h:∀n,a<=n->n<=bI->Sg key (arrOf st) lo (lo+n)->(n=bI∨ky key (arrOf st) (lo+n)<ky key (arrOf st) (lo+n-1))->Q (none,n) st) :
  wpS (model prog w) A E s (wI lo a bI) Q st:=by
 unfold wI
 refine wpS_forRange (I:=fun x c aD=>aD=st/\c=(none,x)/\Sg key (arrOf st) lo (lo+x)) ?step ?fin ⟨rfl,rfl,hs⟩
 case fin=>
  intro c aD
  refine ae.go ?_
  rintro rfl rfl hs'
  rw[Nat.max_eq_right (by omega)] at hs' ⊢
  exact h bI OI (Jd _) hs' (.inl rfl)
 case step=>
  intro x c aD hax hxn
  refine ae.go ?_
  rintro rfl rfl hs'
  dsimp only
  refine wpS_bind (hB.lt hL (by omega) (by omega) ?_)
  by_cases hless:ky key (arrOf aD) (lo+x)<ky key (arrOf aD) (lo+x-1)
  ·simp -iota only [hless,decide_true,if_true]
   exact wpS_pure (h x hax (by omega) hs' (.inr hless))
  ·simp -iota only [hless,decide_false,Ua,if_false]
   refine wpS_pure ⟨rfl,rfl,fun i j hl gX hj =>?_⟩
   by_cases hjx:j<lo+x
   ·exact hs' i j hl gX hjx
   ·have uY:j=lo+x:=by omega
    subst uY
    by_cases iB:i=lo+x
    ·subst iB;exact Yo _
    ·exact Int.le_trans (hs' i (lo+x-1) hl (Wa (Uv gX iB)) (by omega)) (Int.not_lt.mp hless)
theorem sq {hJ st:SortSt}{lo n bI:Nat}{Q:Option Nat->SortSt->Prop}(hL:iC prog w A E s a₀ key kd)(hn:lo+bI<=a₀.size)(h1:1<=n)(ye:n<=bI)(hB:Af a₀ kd lo hJ st)
  (hs:Ng key (arrOf st) lo (lo+n)) (h:∀m aD,Af a₀ kd lo hJ aD->1<=m->m<=bI->Sg key (arrOf aD) lo (lo+m)->Q (some m) aD) :
  wpS (model prog w) A E s (oU lo n bI) Q st:=by
 unfold oU
 have hsz:lo+n<=(arrOf st).size:=by rw[hB.size];omega
 refine wpS_bind (wpS_reverse ?_)
 have fA:=hB.rev (i:=lo) (j:=lo+n) (Jd _) (by omega)
 refine wpS_bind (vA hL hn h1 ye fA ?_ fun m hm1 hm2 hsm _=>wpS_pure (h m _ fA (by omega) hm2 hsm))
 intro i j hl gX hj
 show ky key (mirror (arrOf st) lo (lo+n) ((lo+n-lo) / 2)) i<=ky key (mirror (arrOf st) lo (lo+n) ((lo+n-lo) / 2)) j
 rw[jk hsz,jk hsz,if_pos (by omega),if_pos (by omega)]
 exact hs _ _ (by omega) (Nat.sub_le_sub_left gX _) (by omega)
theorem zN {hJ st:SortSt}{lo n bI:Nat}{Q:DescSt->SortSt->Prop}(hL:iC prog w A E s a₀ key kd)(hn:lo+bI<=a₀.size)(h1:1<=n)(ye:n<=bI)(hB:Af a₀ kd lo hJ st)
  (hs:Ng key (arrOf st) lo (lo+n))
  (h:∀m neq aD,Af a₀ kd lo hJ aD->n<=m->m<=bI->Ng key (arrOf aD) lo (lo+m)->neq+1<=m->(∀i,lo+m-(neq+1)<=i->i<lo+m->ky key (arrOf aD) i=ky key (arrOf aD) (lo+m-1))->Q (none,m,neq) aD) :
  wpS (model prog w) A E s (tf lo n bI) Q st:=by
 unfold tf
 refine wpS_forRange (I:=fun x c aD=>∃neq,c=(none,x,neq)/\Af a₀ kd lo hJ aD/\Ng key (arrOf aD) lo (lo+x)/\neq+1<=x /\
   (∀i,lo+x-(neq+1)<=i->i<lo+x->ky key (arrOf aD) i=ky key (arrOf aD) (lo+x-1))) ?step ?fin ⟨0,rfl,hB,hs,by omega,fun i h1 h2=>congrArg (ky key _) (Nat.le_antisymm (Wa h2) h1)⟩
 case fin=>
  intro c aD
  refine ae.go ?_
  rintro neq rfl fA hs' hq he
  rw[Nat.max_eq_right ye] at hs' hq he ⊢
  exact h bI neq aD fA ye (Jd _) hs' hq he
 case step=>
  intro x c aD hax hxn
  refine ae.go ?_
  rintro neq rfl fA hs' hq he
  dsimp only
  have hsz:lo+x<=(arrOf aD).size:=by rw[fA.size];omega
  have lx:lo+x-1<lo+x:=by omega
  refine wpS_bind (fA.lt hL (by omega) (by omega) ?_)
  by_cases hless:ky key (arrOf aD) (lo+x)<ky key (arrOf aD) (lo+x-1)
  ·simp -iota only [hless,decide_true,if_true]
   have mG:∀xs:Array Keyed,(∀k,ky key xs k=ky key (arrOf aD) k)->Ng key xs lo (lo+(x+1)):=by
    intro xs hk i j hl gX hj
    rw[hk,hk]
    by_cases hjx:j<lo+x
    ·exact hs' i j hl gX hjx
    ·have uY:j=lo+x:=by omega
     subst uY
     by_cases iB:i=lo+x
     ·subst iB;exact Yo _
     ·exact Int.le_trans (Yy hless) (hs' i (lo+x-1) hl (Wa (Uv gX iB)) lx)
   by_cases hneq:neq>0
   ·rw[if_pos hneq]
    refine wpS_bind (wpS_reverse (wpS_pure ⟨0,rfl,fA.rev (by omega) (by omega),mG _ (cf hsz he),by omega,fun i h1 h2=>congrArg (ky key _) (Nat.le_antisymm (Wa h2) h1)⟩))
   ·rw[if_neg hneq]
    exact wpS_pure ⟨0,rfl,fA,mG _ (fun _=>rfl),by omega,fun i h1 h2=>congrArg (ky key _) (Nat.le_antisymm (Wa h2) h1)⟩
  ·simp -iota only [hless,decide_false,Ua,if_false]
   refine wpS_bind (fA.lt hL (by omega) (by omega) ?_)
   by_cases hlarger:ky key (arrOf aD) (lo+x-1)<ky key (arrOf aD) (lo+x)
   ·simp -iota only [hlarger,decide_true,if_true]
    exact wpS_pure (h x neq aD fA hax (by omega) hs' hq he)
   ·simp -iota only [hlarger,decide_false,Ua,if_false]
    have FR:ky key (arrOf aD) (lo+x)=ky key (arrOf aD) (lo+x-1):=by omega
    refine wpS_pure ⟨neq+1,rfl,fA,fun i j hl gX hj =>?_,by omega,fun i h1 h2 =>?_⟩
    ·by_cases hjx:j<lo+x
     ·exact hs' i j hl gX hjx
     ·have uY:j=lo+x:=by omega
      subst uY
      by_cases iB:i=lo+x
      ·subst iB;exact Yo _
      ·rw[FR];exact hs' i (lo+x-1) hl (Wa (Uv gX iB)) lx
    ·rw[show lo+(x+1)-1=lo+x from Nat.add_sub_cancel (lo+x) 1]
     by_cases hix:i=lo+x
     ·subst hix;rfl
     ·rw[FR];exact he i (Js (Y2 (Nat.succ_sub_succ (lo+x) (neq+1)).symm) h1) (Uv (Ws h2) hix)
theorem o9 {hJ st:SortSt}{lo n bI:Nat}{Q:Option Nat->SortSt->Prop}(hL:iC prog w A E s a₀ key kd)(hn:lo+bI<=a₀.size)(ye:n+1<=bI)(hB:Af a₀ kd lo hJ st)
  (hs:Ng key (arrOf st) lo (lo+(n+1))) (h:∀m aD,Af a₀ kd lo hJ aD->1<=m->m<=bI->Sg key (arrOf aD) lo (lo+m)->Q (some m) aD) :
  wpS (model prog w) A E s (oQ lo n bI) Q st:=by
 unfold oQ
 refine wpS_bind (wpS_lift (wpAny_rule ⟨rfl,?_⟩))
 refine wpS_bind (zN hL hn (by omega) ye hB hs fun m neq aD fA hm1 hm2 hs' hq he =>?_)
 dsimp only
 have hsz:lo+m<=(arrOf aD).size:=by rw[fA.size];omega
 by_cases hneq:neq>0
 ·rw[if_pos hneq]
  refine wpS_bind (wpS_reverse (sq hL hn (by omega) hm2 (fA.rev (by omega) (by omega)) ?_ h))
  intro i j hl gX hj
  show ky key (mirror (arrOf aD) _ _ _) j<=ky key (mirror (arrOf aD) _ _ _) i
  rw[cf hsz he,cf hsz he]
  exact hs' i j hl gX hj
 ·rw[if_neg hneq]
  exact sq hL hn (by omega) hm2 fA hs' h
theorem vk {hJ st:SortSt}{lo bI:Nat}{Q:Option Nat->SortSt->Prop}(hL:iC prog w A E s a₀ key kd)(hn:lo+bI<=a₀.size)(h1:1<=bI)(hB:Af a₀ kd lo hJ st)
  (h:∀m aD,Af a₀ kd lo hJ aD->1<=m->m<=bI->Sg key (arrOf aD) lo (lo+m)->Q (some m) aD) :
  wpS (model prog w) A E s (countRun' lo bI) Q st:=by
 rw[uI]
 refine wpS_bind (vA hL hn (Jd 1) h1 hB (fun i j hl gX hj=>by rw[show i=j by omega];exact Yo _) fun n hn1 Bl hsn hor =>?_)
 dsimp only
 by_cases ye:n=bI
 ·rw[if_pos (by simpa using ye)]
  exact wpS_pure (h n st hB hn1 Bl hsn)
 ·rw[if_neg (by simpa using ye)]
  have cc:ky key (arrOf st) (lo+n)<ky key (arrOf st) (lo+n-1):=hor.resolve_left ye
  by_cases hgt:n>1
  ·rw[if_pos hgt]
   refine wpS_bind (hB.lt hL (by omega) (by omega) ?_)
   by_cases hrose:ky key (arrOf st) lo<ky key (arrOf st) (lo+n-1)
   ·simp -iota only [hrose,decide_true,if_true]
    exact wpS_pure (h n st hB hn1 Bl hsn)
   ·simp -iota only [hrose,decide_false,Ua,if_false]
    have hsz:lo+n<=(arrOf st).size:=by rw[hB.size];omega
    have dM:∀k,lo<=k->k<lo+n->ky key (arrOf st) k=ky key (arrOf st) (lo+n-1):=by
     intro k hl hk
     have a1:=hsn lo k (by omega) hl hk
     have a2:=hsn k (lo+n-1) hl (by omega) (by omega)
     omega
    refine wpS_bind (wpS_reverse (o9 hL hn (by omega) (hB.rev (by omega) (by omega)) ?_ h))
    intro i j hl gX hj
    show ky key (mirror (arrOf st) _ _ _) j<=ky key (mirror (arrOf st) _ _ _) i
    rw[cf hsz dM,cf hsz dM]
    by_cases hjn:j<lo+n
    ·rw[dM i hl (by omega),dM j (by omega) hjn];exact Yo _
    ·have uY:j=lo+n:=by omega
     subst uY
     by_cases iB:i=lo+n
     ·subst iB;exact Yo _
     ·rw[dM i hl (by omega)];exact Yy cc
  ·rw[if_neg hgt]
   have LI:n=1:=by omega
   subst LI
   refine o9 hL hn (by omega) hB ?_ h
   intro i j hl gX hj
   by_cases iB:i=j
   ·subst iB;exact Yo _
   ·have Bg:i=lo:=by omega
    have Pu:j=lo+1:=by omega
    subst Bg;subst Pu
    exact Yy cc
theorem mq {xs:Array Keyed}{src d:Nat}(hs:src<xs.size)(hd:d<=src)(k:Nat):
  ky key (bubble xs src d) k=if k=src-d then ky key xs src else if src-d<k/\k<=src then ky key xs (k-1) else ky key xs k:=by
 have e:=getElem?_bubble hs d hd k
 by_cases h1:k=src-d
 ·rw[if_pos h1] at e ⊢;exact cS e
 ·rw[if_neg h1] at e ⊢
  by_cases h2:src-d<k/\k<=src
  ·rw[if_pos h2] at e ⊢;exact cS e
  ·rw[if_neg h2] at e ⊢;exact cS e
theorem CB {hJ st:SortSt}{lo n ok:Nat}{Q:Bool->SortSt->Prop}(hL:iC prog w A E s a₀ key kd)(hn:lo+n<=a₀.size)(aZ:ok<=n)(hB:Af a₀ kd lo hJ st)(hs:Sg key (arrOf st) lo (lo+ok))
  (h:∀aD,Af a₀ kd lo hJ aD->Sg key (arrOf aD) lo (lo+n)->Q true aD):wpS (model prog w) A E s (binarySort' lo n ok) Q st:=by
 rw[binarySort'_eq]
 refine wpS_bind (wpS_mono (wpS_forRange (I:=fun k c aD=>c=(none,())/\Af a₀ kd lo hJ aD/\Sg key (arrOf aD) lo (lo+min k n))
  (Q:=fun c aD=>c=(none,())/\Af a₀ kd lo hJ aD/\Sg key (arrOf aD) lo (lo+n)) ?step ?fin ?init) ?post)
 case post=>
  intro c aD
  refine ae.go ?_
  rintro rfl fA hs'
  exact wpS_pure (h aD fA hs')
 case init=>
  refine⟨rfl,hB,fun i j hl gX hj =>?_⟩
  by_cases h1:ok=0
  ·subst h1
   have IU:j<lo+1:=J3 hj (Yc (Nat.min_le_left _ _) _)
   have:i=j:=Nat.le_antisymm gX (Js (Ws IU) hl)
   subst this;exact Yo _
  ·exact hs i j hl gX (J3 hj (Yc (Js (Nat.min_le_left _ _) (Y2 (Nat.max_eq_left (Nat.pos_of_ne_zero h1)))) _))
 case fin=>
  intro c aD
  refine ae.go ?_
  rintro hc fA hs'
  refine⟨hc,fA,?_⟩
  rwa[Nat.min_eq_right (Nat.le_max_right _ _)] at hs'
 case step=>
  intro k c aD hak hkn
  refine ae.go ?_
  rintro rfl fA hs'
  rw[Ye (U8 hkn)] at hs'
  have hk:lo+k<a₀.size:=by omega
  refine wpS_bind (wpS_mono (wpS_forRange (I:=fun x c st''=>st''=aD/\∃l r,c=(none,l,r)/\l<=r/\r<=k/\r+x<=k+l /\
    (∀i,i<l->ky key (arrOf aD) (lo+i)<=ky key (arrOf aD) (lo+k))/\(∀i,r<=i->i<k->ky key (arrOf aD) (lo+k)<ky key (arrOf aD) (lo+i)))
   (Q:=fun c st''=>st''=aD/\∃l r,c=(none,l,r)/\l<=k /\
    (∀i,i<l->ky key (arrOf aD) (lo+i)<=ky key (arrOf aD) (lo+k))/\(∀i,l<=i->i<k->ky key (arrOf aD) (lo+k)<ky key (arrOf aD) (lo+i))) ?istep ?ifin ?iinit) ?ipost)
  case iinit=>exact⟨rfl,0,k,rfl,by omega,by omega,by omega,fun i hi=>by omega,fun i h1 h2=>by omega⟩
  case ifin=>
   intro c st''
   refine ae.go ?_
   rintro rfl l r rfl hlr hrk hm v7 hhi
   have:l=r:=by omega
   subst this
   exact⟨rfl,l,l,rfl,hrk,v7,hhi⟩
  case istep=>
   intro x c st'' _ hxk
   refine ae.go ?_
   rintro rfl l r rfl hlr hrk hm v7 hhi
   dsimp only
   by_cases hge:l>=r
   ·rw[if_pos hge]
    have:l=r:=by omega
    subst this
    exact wpS_pure ⟨rfl,l,l,rfl,hrk,v7,hhi⟩
   ·rw[if_neg hge]
    have y1:l<=(l+r) / 2:=by omega
    have y2:(l+r) / 2<r:=by omega
    generalize (l+r) / 2=m at y1 y2 ⊢
    refine wpS_bind (fA.lt hL hk (by omega) ?_)
    by_cases hless:ky key (arrOf st'') (lo+k)<ky key (arrOf st'') (lo+m)
    ·simp -iota only [hless,decide_true,if_true]
     refine wpS_pure ⟨rfl,l,m,rfl,y1,by omega,by omega,v7,fun i h1 h2 =>?_⟩
     exact Int.lt_of_lt_of_le hless (hs' _ _ (U4 _ _) (by omega) (by omega))
    ·simp -iota only [hless,decide_false,Ua,if_false]
     refine wpS_pure ⟨rfl,m+1,r,rfl,y2,hrk,by omega,fun i h1 =>?_,hhi⟩
     exact Int.le_trans (hs' (lo+i) (lo+m) (U4 _ _) (by omega) (by omega)) (Int.not_lt.mp hless)
  case ipost=>
   intro c st''
   refine ae.go ?_
   rintro rfl l r rfl hlk v7 hhi
   show wpS _ _ _ _ (do moveDown' (lo+k) (lo+l);pure (ForInStep.yield (none,()))) _ _
   rw[moveDown'_eq]
   have Dr:lo+k<(arrOf st'').size:=by rw[fA.size];exact hk
   refine wpS_bind (wpS_modify (wpS_pure ⟨rfl,fA.set (bubble_perm _ _ _) (fun i hi =>?_),?_⟩))
   ·rw[getElem?_bubble Dr _ (Nat.sub_le _ _),Nat.sub_sub_self (Yc hlk lo),if_neg (by omega),if_neg (by omega)]
   rw[Ye hkn]
   have A4:∀i,lo<=i->i<lo+l->ky key (arrOf st'') i<=ky key (arrOf st'') (lo+k):=fun i h1 h2=>by
    have:=v7 (i-lo) (Nat.sub_lt_left_of_lt_add h1 h2);rwa[Wd h1] at this
   have B8:∀i,lo+l<=i->i<lo+k->ky key (arrOf st'') (lo+k)<ky key (arrOf st'') i:=fun i h1 h2=>by
    have h0:=Js (U4 lo l) h1;have:=hhi (i-lo) (Nat.le_sub_of_add_le' h1) (Nat.sub_lt_left_of_lt_add h0 h2);rwa[Wd h0] at this
   intro i j hl gX hj
   show ky key (bubble (arrOf st'') (lo+k) (lo+k-(lo+l))) i<=ky key (bubble (arrOf st'') (lo+k) (lo+k-(lo+l))) j
   have hj:j<lo+k+1:=hj
   have hy:lo+l<=lo+k:=Yc hlk _
   have h0:lo<=lo+l:=U4 _ _
   rw[mq Dr (Nat.sub_le _ _),mq Dr (Nat.sub_le _ _),Nat.sub_sub_self hy]
   clear v7 hhi h hB hs hn aZ hak hkn hk hlk hL
   generalize lo+l=y at h0 hy A4 B8 ⊢
   generalize lo+k=z at hy A4 B8 hs' hj Dr ⊢
   repeat' split
   all_goals first
    | (exfalso;omega)
    | exact Yo _
    | exact A4 _ (by omega) (by omega)
    | exact Yy (B8 _ (by omega) (by omega))
    | exact hs' _ _ (by omega) (Nat.sub_le_sub_right gX 1) (by omega)
    | exact hs' _ _ (by omega) (by omega) (by omega)
end
noncomputable def sD:Bool->Keyed->Array Keyed->Nat->Nat->Nat->StateT SortSt Sem (Option Nat):=sortPriv% PySem.Builtin.gallop
noncomputable def mZ (left:Bool)(k:Keyed)(arr:Array Keyed)(base i:Nat):StateT SortSt Sem (Option Bool):=do
 let x <-elem' arr (base+i)
 if left then lt' x k else return (<-lt' k x).map (!·)
section
variable {prog:Program}{w:World}{A:Around}{E:Value->Shared->Prop}{s:Shared}{a₀:Array Keyed}{key:Keyed->Int}{kd:SortKind}
noncomputable def g9 (left:Bool)(k x:Int):Bool:=if left then decide (x<k) else !decide (k<x)
theorem nO {left:Bool}{k:Keyed}{arr:Array Keyed}{base i:Nat}{st:SortSt}{Q:Option Bool->SortSt->Prop}(hL:iC prog w A E s a₀ key kd)(hR:kindOf st=kd)(ha:∀p∈arr.toList,p∈a₀.toList)(hk:k∈a₀.toList)
  (hi:base+i<arr.size) (h:Q (some (g9 left (key k) (ky key arr (base+i)))) st):wpS (model prog w) A E s (mZ left k arr base i) Q st:=by
 unfold mZ
 refine wpS_bind (gR hi fun p e =>?_)
 have hp:=ha p (Array.mem_toList_iff.mpr (Array.mem_of_getElem? e))
 rw[cZ e] at h
 cases left with
 | true=>exact hL _ _ _ _ hp hk hR h
 | false=>
  refine wpS_bind (m:=lt' k p) (hL _ _ _ _ hk hp hR ?_)
  exact wpS_pure h
theorem wW {left:Bool}{k x y:Int}(h:x<=y)(hy:g9 left k y=true):g9 left k x=true:=by
 unfold g9 at *
 cases left
 ·simp at hy ⊢;omega
 ·simp at hy ⊢;omega
def LH (left:Bool)(k:Int)(key:Keyed->Int)(arr:Array Keyed)(base n r:Nat):Prop:=
 r<=n/\(∀i,i<r->g9 left k (ky key arr (base+i))=true)/\∀i,r<=i->i<n->g9 left k (ky key arr (base+i))=false
theorem rD {α γ:Type}{m:StateT SortSt Sem α}{Q: α->SortSt->Prop}{st:SortSt}(V: γ->StateT SortSt Sem α)(G: γ->Prop)(hV:∀z,G z->wpS (model prog w) A E s (V z) Q st)
  (hm:(∀z,G z->wpS (model prog w) A E s (V z) Q st)->wpS (model prog w) A E s m Q st):wpS (model prog w) A E s m Q st:=hm hV
section
variable {α:Type}{c:Prop}[Decidable c]{m n:StateT SortSt Sem α}{Q: α->SortSt->Prop}{st:SortSt}
theorem IE (h:c)(hm:wpS (model prog w) A E s m Q st):wpS (model prog w) A E s (if c then m else n) Q st:=by rw[if_pos h];exact hm
theorem Hk (h:¬c)(hm:wpS (model prog w) A E s n Q st):wpS (model prog w) A E s (if c then m else n) Q st:=by rw[if_neg h];exact hm
theorem lE (h1:c->wpS (model prog w) A E s m Q st)(h2:¬c->wpS (model prog w) A E s n Q st):wpS (model prog w) A E s (if c then m else n) Q st:=by
 split
 ·exact h1 ‹_›
 ·exact h2 ‹_›
theorem mQ {x y:Nat}(h1:x=y->wpS (model prog w) A E s m Q st)(h2:¬x=y->wpS (model prog w) A E s n Q st):wpS (model prog w) A E s (if (x==y)=true then m else n) Q st:=
 lE (fun z=>h1 (by simpa using z)) fun z=>h2 (by simpa using z)
end
theorem jc {left:Bool}{k:Keyed}{arr:Array Keyed}{base n hint:Nat}{st:SortSt}{Q:Option Nat->SortSt->Prop}(hL:iC prog w A E s a₀ key kd)(hR:kindOf st=kd)(ha:∀p∈arr.toList,p∈a₀.toList)(hk:k∈a₀.toList)
  (hs:Sg key arr base (base+n)) (hn:base+n<=arr.size) (hh:hint<n) (h:∀r,LH left (key k) key arr base n r->Q (some r) st):wpS (model prog w) A E s (sD left k arr base n hint) Q st:=by
 have up:∀i j,i<=j->j<n->g9 left (key k) (ky key arr (base+j))=true->g9 left (key k) (ky key arr (base+i))=true:=fun i j gX hj=>wW (hs _ _ (by omega) (by omega) (by omega))
 have dn:∀i j,i<=j->j<n->g9 left (key k) (ky key arr (base+i))=false->g9 left (key k) (ky key arr (base+j))=false:=fun i j gX hj e=>by
  cases e2:g9 left (key k) (ky key arr (base+j)) with
  | false=>rfl
  | true=>rw[up i j gX hj e2] at e;cases e
 refine wpS_bind (m:=mZ left k arr base hint) (nO hL hR ha hk (by omega) ?_)
 dsimp -zeta only
 extract_lets jp mo1 mo2
 refine rD (fun z:Nat×Nat×Nat×Nat=>jp () z.1 z.2.1 z.2.2.1 z.2.2.2) (fun z=>(z.2.2.1<=z.2.2.2/\z.2.2.2<=n)/\(∀i,i<z.2.2.1->g9 left (key k) (ky key arr (base+i))=true)/\(∀i,z.2.2.2<=i->i<n->g9 left (key k) (ky key arr (base+i))=false)) (fun z hz =>?_) fun H =>?_
 ·obtain⟨z1,z2,lo0,Bg⟩:=z
  refine wpS_bind (wpS_mono (wpS_forRange (I:=fun x c aD=>aD=st/\∃lo hi,c=(none,lo,hi)/\lo<=hi/\hi<=n/\hi+x<=n+lo/\(∀i,i<lo->g9 left (key k) (ky key arr (base+i))=true)/\(∀i,hi<=i->i<n->g9 left (key k) (ky key arr (base+i))=false))
   (Q:=fun c aD=>aD=st/\∃r,c=(none,r,r)/\LH left (key k) key arr base n r) ?stepA ?finA ⟨rfl,lo0,Bg,rfl,hz.1.1,hz.1.2,Js hz.1.2 (U4 _ _),hz.2.1,hz.2.2⟩) ?postA)
  case postA=>
   intro c aD
   refine ae.go ?_
   rintro rfl r rfl g
   exact wpS_pure (h r g)
  case finA=>
   intro c aD
   refine ae.go ?_
   rintro rfl lo hi rfl b1 b2 b3 b4 b5
   have:lo=hi:=by omega
   subst this
   exact⟨rfl,lo,rfl,b2,b4,b5⟩
  case stepA=>
   intro x c aD _ hx
   refine ae.go ?_
   rintro rfl lo hi rfl b1 b2 b3 b4 b5
   dsimp only
   refine lE (fun hge =>?_) fun hge =>?_
   ·have:lo=hi:=by omega
    subst this
    exact wpS_pure ⟨rfl,lo,rfl,b2,b4,b5⟩
   ·have y1:lo<=lo+(hi-lo) / 2:=U4 _ _
    have y2:lo+(hi-lo) / 2<hi:=by omega
    generalize lo+(hi-lo) / 2=m at y1 y2 ⊢
    refine wpS_bind (nO hL hR ha hk (by omega) ?_)
    cases e:g9 left (key k) (ky key arr (base+m)) with
    | true=>
     dsimp only
     refine IE rfl ?_
     exact wpS_pure ⟨rfl,_,_,rfl,y2,b2,by omega,fun i iB=>up i _ (Ws iB) (by omega) e,b5⟩
    | false=>
     dsimp only
     refine Hk Jm ?_
     exact wpS_pure ⟨rfl,_,_,rfl,y1,by omega,by omega,b4,fun i i1 i2=>dn _ i i1 i2 e⟩
 have eN:hint+(n-hint)=n:=Wd (U8 hh)
 refine lE (fun e =>?_) fun e =>?_
 ·refine wpS_bind (wpS_mono (wpS_forRange (I:=fun x c aD=>aD=st/\∃last ofs,c=(none,last,ofs)/\last<ofs/\x+1<=ofs/\last<n-hint/\g9 left (key k) (ky key arr (base+(hint+last)))=true)
   (Q:=fun c aD=>aD=st/\∃last ofs,c=(none,last,ofs)/\last<ofs/\last<n-hint/\g9 left (key k) (ky key arr (base+(hint+last)))=true/\(n-hint<=ofs∨g9 left (key k) (ky key arr (base+(hint+ofs)))=false)) ?step ?fin ⟨rfl,0,1,rfl,by omega,by omega,by omega,e⟩) ?post)
  case post=>
   intro c fG
   refine ae.go ?_
   rintro rfl last ofs rfl c1 c2 c3 c4
   refine H (last,ofs,hint+last+1,hint+min ofs (n-hint)) ⟨⟨Yc (Nat.le_min.mpr ⟨c1,c2⟩) hint,Js (Yc (Nat.min_le_right _ _) _) (Y2 eN)⟩,fun i hi=>up i (hint+last) (Ws hi) (Nat.lt_of_lt_of_eq (Nat.add_lt_add_left c2 hint) eN) c3,fun i i1 i2 =>?_⟩
   have i1:hint+min ofs (n-hint)<=i:=i1
   rcases Nat.le_total (n-hint) ofs with t|t
   ·rw[Nat.min_eq_right t,eN] at i1
    exact absurd i2 (Nat.not_lt.mpr i1)
   ·rw[Ye t] at i1
    rcases c4 with c4|c4
    ·rw[Nat.le_antisymm t c4,eN] at i1
     exact absurd i2 (Nat.not_lt.mpr i1)
    ·exact dn (hint+ofs) i i1 i2 c4
  case fin=>
   intro c aD
   refine ae.go ?_
   rintro rfl last ofs rfl c1 c2 c3 c4
   exact⟨rfl,last,ofs,rfl,c1,c3,c4,.inl (by omega)⟩
  case step=>
   intro x c aD _ hx
   refine ae.go ?_
   rintro rfl last ofs rfl c1 c2 c3 c4
   dsimp only[mo1]
   refine lE (fun hge=>wpS_pure ⟨rfl,last,ofs,rfl,c1,c3,c4,.inl hge⟩) fun hge =>?_
   refine wpS_bind (nO hL hR ha hk (by omega) ?_)
   cases e2:g9 left (key k) (ky key arr (base+(hint+ofs))) with
   | true=>
    exact wpS_pure ⟨rfl,ofs,2*ofs+1,rfl,by omega,by omega,by omega,e2⟩
   | false=>
    exact wpS_pure ⟨rfl,last,ofs,rfl,c1,c3,c4,.inr e2⟩
 ·have e:=Bool.eq_false_iff.mpr e
  refine wpS_bind (wpS_mono (wpS_forRange (I:=fun x c aD=>aD=st/\∃last ofs,c=(none,last,ofs)/\last<ofs/\x+1<=ofs/\last<hint+1/\g9 left (key k) (ky key arr (base+(hint-last)))=false)
   (Q:=fun c aD=>aD=st/\∃last ofs,c=(none,last,ofs)/\last<ofs/\last<hint+1/\g9 left (key k) (ky key arr (base+(hint-last)))=false/\(hint+1<=ofs∨(ofs<=hint/\g9 left (key k) (ky key arr (base+(hint-ofs)))=true))) ?step ?fin ⟨rfl,0,1,rfl,by omega,by omega,by omega,e⟩) ?post)
  case post=>
   intro c fG
   refine ae.go ?_
   rintro rfl last ofs rfl c1 c2 c3 c4
   refine H (last,ofs,hint+1-min ofs (hint+1),hint-last) ⟨⟨?_,Js (Nat.sub_le _ _) (U8 hh)⟩,fun i hi =>?_,fun i i1 i2=>dn (hint-last) i i1 i2 c3⟩
   ·show hint+1-min ofs (hint+1)<=hint-last
    rw[<-Nat.succ_sub_succ hint last]
    exact Nat.sub_le_sub_left (Nat.le_min.mpr ⟨c1,c2⟩) _
   have hi:i<hint+1-min ofs (hint+1):=hi
   rcases c4 with c4|⟨c4,c5⟩
   ·rw[Nat.min_eq_right c4,Nat.sub_self] at hi
    exact absurd hi (Nat.not_lt_zero _)
   ·rw[Ye (Nat.le_succ_of_le c4),Nat.succ_sub c4] at hi
    exact up i (hint-ofs) (Ws hi) (Jy (Nat.sub_le _ _) hh) c5
  case fin=>
   intro c aD
   refine ae.go ?_
   rintro rfl last ofs rfl c1 c2 c3 c4
   exact⟨rfl,last,ofs,rfl,c1,c3,c4,.inl (by omega)⟩
  case step=>
   intro x c aD _ hx
   refine ae.go ?_
   rintro rfl last ofs rfl c1 c2 c3 c4
   dsimp only[mo2]
   refine lE (fun hge=>wpS_pure ⟨rfl,last,ofs,rfl,c1,c3,c4,.inl hge⟩) fun hge =>?_
   refine wpS_bind (nO hL hR ha hk (by omega) ?_)
   cases e2:g9 left (key k) (ky key arr (base+(hint-ofs))) with
   | true=>
    exact wpS_pure ⟨rfl,last,ofs,rfl,c1,c3,c4,.inr ⟨by omega,e2⟩⟩
   | false=>
    exact wpS_pure ⟨rfl,ofs,2*ofs+1,rfl,by omega,by omega,by omega,e2⟩
end
noncomputable def AO:Nat->StateT SortSt Sem Unit:=sortPriv% PySem.Builtin.setMinGallop
noncomputable def AG (st:SortSt)(g:Nat):SortSt:=SortSt.mk' (kindOf st) (arrOf st) (pendingOf st) g (failedOf st)
noncomputable def xO:Array Keyed->Array Keyed->StateT SortSt Sem (Array Keyed):=sortPriv% PySem.Builtin.mergeLo
section
variable {prog:Program}{w:World}{A:Around}{E:Value->Shared->Prop}{s:Shared}{a₀:Array Keyed}{key:Keyed->Int}{kd:SortKind}
def Sl (key:Keyed->Int)(l:List Keyed):Prop:=l.Pairwise fun x y=>key x<=key y
structure Kp (st aD:SortSt):Prop where
 kind:kindOf aD=kindOf st
 arr:arrOf aD=arrOf st
 pend:pendingOf aD=pendingOf st
 failed:failedOf aD=failedOf st
theorem Kp.refl (st:SortSt):Kp st st:=⟨rfl,rfl,rfl,rfl⟩
theorem Kp.OE {st aD:SortSt}(h:Kp st aD)(g:Nat):Kp st (AG aD g):=⟨h.kind,h.arr,h.pend,h.failed⟩
theorem ix {xs:Array Keyed}{i:Nat}{x:Keyed}(h:xs.toList[i]? = some x):xs[i]? = some x:=by rw[<-h,Uk]
theorem gJ {xs:Array Keyed}{i:Nat}{x:Keyed}(h:x∈xs.toList.drop i):∃j,i<=j/\j<xs.size/\ky key xs j=key x:=by
 obtain⟨j,hj⟩:=Yb.mp h
 rw[List.getElem?_drop] at hj
 have hl:=(Ju.mp hj).1
 rw[Jw] at hl
 exact⟨i+j,by omega,hl,cZ (ix hj)⟩
theorem gO {xs:Array Keyed}{i:Nat}{x:Keyed}(h:x∈xs.toList.take i):∃j,j<i/\j<xs.size/\ky key xs j=key x:=by
 obtain⟨j,hj⟩:=Yb.mp h
 have hl:=(Ju.mp hj).1
 rw[Jr,Jw] at hl
 rw[List.getElem?_take_of_lt (by omega)] at hj
 exact⟨j,by omega,by omega,cZ (ix hj)⟩
theorem mW {xs:Array Keyed}{i k:Nat}{x:Keyed}(h:x∈(xs.toList.drop i).take k):∃j,i<=j/\j<i+k/\j<xs.size/\ky key xs j=key x:=by
 obtain⟨j,hj⟩:=Yb.mp h
 have hl:=(Ju.mp hj).1
 rw[Jr,J9,Jw] at hl
 rw[List.getElem?_take_of_lt (by omega),List.getElem?_drop] at hj
 exact⟨i+j,by omega,by omega,by omega,cZ (ix hj)⟩
theorem BZ {xs:Array Keyed}{i:Nat}{p:Keyed}(h:xs[i]? = some p):(xs.toList.drop i).take 1=[p]:=by
 rw[<-Uk] at h
 obtain⟨hl,e⟩:=Ju.mp h
 rw[Y5 hl,e];rfl
theorem g7 {xs:Array Keyed}(h:Sg key xs 0 xs.size):Sl key xs.toList:=by
 refine Ux.mpr fun i j hi hj gX =>?_
 rw[Jw] at hi hj
 have:=h i j (by omega) (by omega) hj
 rwa[cZ (getElem?_pos xs i hi),cZ (getElem?_pos xs j hj)] at this
structure Mg (key:Keyed->Int)(a b:Array Keyed)(out:List Keyed)(ia ib:Nat):Prop where
 ha:ia<=a.size
 hb:ib<=b.size
 sa:Sg key a 0 a.size
 sb:Sg key b 0 b.size
 perm:(out++(a.toList.drop ia++b.toList.drop ib)).Perm (a.toList++b.toList)
 so:Sl key out
 la:∀x∈out,∀y∈a.toList.drop ia,key x<=key y
 lb:∀x∈out,∀y∈b.toList.drop ib,key x<=key y
theorem Mg.swap {a b:Array Keyed}{out:List Keyed}{ia ib:Nat}(h:Mg key a b out ia ib):Mg key b a out ib ia:=
 ⟨h.hb,h.ha,h.sb,h.sa,((Yu).append_left out).trans (h.perm.trans Yu),h.so,h.lb,h.la⟩
theorem Mg.tA {a b:Array Keyed}{out:List Keyed}{ia ib k:Nat}(h:Mg key a b out ia ib)(hk:ia+k<=a.size)(q:∀j,ia<=j->j<ia+k->ky key a j<=ky key b ib):Mg key a b (out++(a.toList.drop ia).take k) (ia+k) ib:=by
 have e:a.toList.drop ia=(a.toList.drop ia).take k++a.toList.drop (ia+k):=by
  rw[<-List.drop_drop,Y6]
 have sd:Sl key (a.toList.drop ia):=(g7 h.sa).sublist (Wt _ _)
 rw[e] at sd
 obtain⟨s1,s2,s3⟩:=Ue.mp sd
 refine⟨hk,h.hb,h.sa,h.sb,?_,?_,?_,?_⟩
 ·have p:=h.perm
  rw[e] at p
  rw[Ug] at p ⊢
  exact p
 ·refine Ue.mpr ⟨h.so,s1,fun x hx y hy=>h.la x hx y (Wu hy)⟩
 ·intro x hx y hy
  rcases Ji.mp hx with hx|hx
  ·exact h.la x hx y (by rw[e];exact Jk _ hy)
  ·exact s3 x hx y hy
 ·intro x hx y hy
  rcases Ji.mp hx with hx|hx
  ·exact h.lb x hx y hy
  ·obtain⟨j,j1,j2,j3,e1⟩:=mW (key:=key) hx
   obtain⟨i,i1,i2,e2⟩:=gJ (key:=key) hy
   have:=q j j1 j2
   have:=h.sb ib i (by omega) i1 i2
   omega
theorem Mg.tB {a b:Array Keyed}{out:List Keyed}{ia ib k:Nat}(h:Mg key a b out ia ib)(hk:ib+k<=b.size)(q:∀j,ib<=j->j<ib+k->ky key b j<=ky key a ia):Mg key a b (out++(b.toList.drop ib).take k) ia (ib+k):=
 (h.swap.tA hk q).swap
theorem Mg.mM {a b out:Array Keyed}{ia ib:Nat}{p:Keyed}(h:Mg key a b out.toList ia ib)(e:a[ia]? = some p)(hk:ia<a.size)(q:ky key a ia<=ky key b ib):Mg key a b (out.push p).toList (ia+1) ib:=by
 rw[Yl,<-BZ e]
 exact h.tA hk fun j j1 j2=>by rw[show j=ia by omega];exact q
theorem Mg.me {a b out:Array Keyed}{ia ib:Nat}{p:Keyed}(h:Mg key a b out.toList ia ib)(e:b[ib]? = some p)(hk:ib<b.size)(q:ky key b ib<=ky key a ia):Mg key a b (out.push p).toList ia (ib+1):=by
 rw[Yl,<-BZ e]
 exact h.tB hk fun j j1 j2=>by rw[show j=ib by omega];exact q
theorem ext_toList {xs:Array Keyed}{i k:Nat}(h:i+k<=xs.size):(xs.extract i (i+k)).toList=(xs.toList.drop i).take k:=by
 rw[Array.toList_extract,List.extract_eq_take_drop]
 congr 1;omega
theorem jQ {xs:Array Keyed}{i:Nat}:(xs.extract i xs.size).toList=xs.toList.drop i:=by
 rw[Array.toList_extract,List.extract_eq_take_drop]
 refine U9 ?_
 rw[J9,Jw];omega
theorem Mg.JN {a b out:Array Keyed}{ia ib k:Nat}(h:Mg key a b out.toList ia ib)(hk:ia+k<=a.size)(q:∀j,ia<=j->j<ia+k->ky key a j<=ky key b ib):Mg key a b (out++a.extract ia (ia+k)).toList (ia+k) ib:=by
 rw[U6,ext_toList hk]
 exact h.tA hk q
theorem Mg.KW {a b out:Array Keyed}{ia ib k:Nat}(h:Mg key a b out.toList ia ib)(hk:ib+k<=b.size)(q:∀j,ib<=j->j<ib+k->ky key b j<=ky key a ia):Mg key a b (out++b.extract ib (ib+k)).toList ia (ib+k):=by
 rw[U6,ext_toList hk]
 exact h.tB hk q
def Good (key:Keyed->Int)(a b res:Array Keyed):Prop:=res.toList.Perm (a.toList++b.toList)/\Sl key res.toList
theorem Mg.done {a b out:Array Keyed}{ia ib:Nat}(h:Mg key a b out.toList ia ib)(q:ia=a.size∨ib=b.size):Good key a b (out++a.extract ia a.size++b.extract ib b.size):=by
 unfold Good
 rw[U6,U6,jQ,jQ,Ug]
 refine⟨h.perm,Ue.mpr ⟨h.so,Ue.mpr ⟨(g7 h.sa).sublist (Wt _ _),(g7 h.sb).sublist (Wt _ _),fun x hx y hy =>?_⟩,fun x hx y hy =>?_⟩⟩
 ·obtain⟨j,j1,j2,_⟩:=gJ (key:=key) hx
  obtain⟨i,i1,i2,_⟩:=gJ (key:=key) hy
  omega
 ·rcases Ji.mp hy with hy|hy
  ·exact h.la x hx y hy
  ·exact h.lb x hx y hy
theorem Mg.last {a b out:Array Keyed}{ia ib:Nat}(h:Mg key a b out.toList ia ib)(e:ia+1=a.size)(q:∀j,j<b.size->ky key b j<=ky key a (a.size-1)):Good key a b (out++b.extract ib b.size++a.extract ia a.size):=by
 unfold Good
 rw[U6,U6,jQ,jQ,Ug]
 refine⟨(Yu.append_left out.toList).trans h.perm,Ue.mpr ⟨h.so,Ue.mpr ⟨(g7 h.sb).sublist (Wt _ _),(g7 h.sa).sublist (Wt _ _),fun x hx y hy =>?_⟩,fun x hx y hy =>?_⟩⟩
 ·obtain⟨j,j1,j2,e1⟩:=gJ (key:=key) hx
  obtain⟨i,i1,i2,e2⟩:=gJ (key:=key) hy
  have:=q j j2
  rw[show a.size-1=i by omega] at this
  omega
 ·rcases Ji.mp hy with hy|hy
  ·exact h.lb x hx y hy
  ·exact h.la x hx y hy
theorem nU {k x:Int}(h:g9 false k x=true):x<=k:=by unfold g9 at h;simp at h;exact h
theorem mS {k x:Int}(h:g9 false k x=false):k<x:=by unfold g9 at h;simp at h;exact h
theorem jP {k x:Int}(h:g9 true k x=true):x<k:=by unfold g9 at h;simp at h;exact h
theorem jT {k x:Int}(h:g9 true k x=false):k<=x:=by unfold g9 at h;simp at h;exact h
end
section
variable {prog:Program}{w:World}{A:Around}{E:Value->Shared->Prop}{s:Shared}{a₀:Array Keyed}{key:Keyed->Int}{kd:SortKind}
theorem dg {α:Type}{xs:Array Keyed}{i:Nat}{f:Keyed->StateT SortSt Sem α}{Q: α->SortSt->Prop}{st:SortSt}(hi:i<xs.size)(h:∀p,xs[i]? = some p->wpS (model prog w) A E s (f p) Q st):wpS (model prog w) A E s (elem' xs i >>= f) Q st:=wpS_bind (gR hi h)
theorem ltB {α:Type}{x y:Keyed}{f:Option Bool->StateT SortSt Sem α}{Q: α->SortSt->Prop}{st:SortSt}(hL:iC prog w A E s a₀ key kd)(hx:x∈a₀.toList)(hy:y∈a₀.toList)(hk:kindOf st=kd)(h:wpS (model prog w) A E s (f (some (decide (key x<key y)))) Q st):wpS (model prog w) A E s (lt' x y >>= f) Q st:=wpS_bind (hL _ _ _ _ hx hy hk h)
theorem jR {α:Type}{left:Bool}{k:Keyed}{arr:Array Keyed}{base n hint:Nat}{st:SortSt}{f:Option Nat->StateT SortSt Sem α}{Q: α->SortSt->Prop}(hL:iC prog w A E s a₀ key kd)(hR:kindOf st=kd)(ha:∀p∈arr.toList,p∈a₀.toList)(hk:k∈a₀.toList)
  (hs:Sg key arr base (base+n)) (hn:base+n<=arr.size) (hh:hint<n) (h:∀r,LH left (key k) key arr base n r->wpS (model prog w) A E s (f (some r)) Q st):wpS (model prog w) A E s (sD left k arr base n hint >>= f) Q st:=wpS_bind (jc hL hR ha hk hs hn hh h)
theorem Eu {α β γ δ ε ζ:Type}{P: α × β × γ × δ × ε × ζ->Prop}(h:∀a b c d e f,P (a,b,c,d,e,f)):∀x,P x:=fun⟨a,b,c,d,e,f⟩=>h a b c d e f
theorem D1 {α β γ δ ε ζ η:Type}{P: α × β × γ × δ × ε × ζ × η->Prop}(h:∀a b c d e f g,P (a,b,c,d,e,f,g)):∀x,P x:=fun⟨a,b,c,d,e,f,g⟩=>h a b c d e f g
theorem sR {α:Type}{g:Nat}{f:Unit->StateT SortSt Sem α}{st cR:SortSt}{Q: α->SortSt->Prop}(kp:Kp st cR)(h:∀jF,Kp st jF->wpS (model prog w) A E s (f ()) Q jF):wpS (model prog w) A E s (AO g >>= f) Q cR:=by
 exact wpS_bind (m:=AO g) (wpS_modify (f:=fun s=>AG s g) (h _ (kp.OE g)))
theorem mem_of {xs:Array Keyed}{i:Nat}{p:Keyed}(h:xs[i]? = some p):p∈xs.toList:=Array.mem_toList_iff.mpr (Array.mem_of_getElem? h)
theorem sT {xs:Array Keyed}{i j:Nat}(h:Sg key xs 0 j):Sg key xs i j:=fun p q _ h2 h3=>h p q (Uq _) h2 h3
abbrev HM (key:Keyed->Int)(a b:Array Keyed)(st:SortSt)(x:Nat)(c:Option (Array Keyed)×Array Keyed×Nat×Nat×Nat)(aD:SortSt):Prop:=Kp st aD/\∃out ia ib g,c=(none,out,ia,ib,g)/\Mg key a b out.toList ia ib/\x+1<=ia+ib/\ia+1<a.size/\ib<b.size
abbrev LR (key:Keyed->Int)(a b:Array Keyed)(st:SortSt)(c:Option (Array Keyed)×Array Keyed×Nat×Nat×Nat)(aD:SortSt):Prop:=Kp st aD/\∃r,c.1=some r/\Good key a b r
abbrev K1 (key:Keyed->Int)(a b:Array Keyed)(fG:SortSt)(x:Nat)(y:Nat)(c:Option (Array Keyed)×Array Keyed×Nat×Nat×Nat×Nat)(aD:SortSt):Prop:=aD=fG/\∃out ia ib p q,c=(none,out,ia,ib,p,q)/\Mg key a b out.toList ia ib/\x+1+y<=ia+ib/\ia+1<a.size/\ib<b.size
abbrev Iw (key:Keyed->Int)(a b:Array Keyed)(fG:SortSt)(x:Nat)(c:Option (Array Keyed)×Array Keyed×Nat×Nat×Nat×Nat)(aD:SortSt):Prop:=aD=fG/\((∃r,c.1=some r/\Good key a b r)∨(c.1=none/\Mg key a b c.2.1.toList c.2.2.1 c.2.2.2.1/\x+2<=c.2.2.1+c.2.2.2.1/\c.2.2.1+1<a.size/\c.2.2.2.1<b.size))
abbrev JW (key:Keyed->Int)(a b:Array Keyed)(st:SortSt)(x:Nat)(y:Nat)(c:Option (Array Keyed)×Array Keyed×Nat×Nat×Nat×Nat×Nat)(aD:SortSt):Prop:=Kp st aD/\∃out ia ib g p q,c=(none,out,ia,ib,g,p,q)/\Mg key a b out.toList ia ib/\x+2<=ia+ib/\ia+1<a.size/\ib<b.size
abbrev Kx (key:Keyed->Int)(a b:Array Keyed)(st:SortSt)(x:Nat)(c:Option (Array Keyed)×Array Keyed×Nat×Nat×Nat×Nat×Nat)(aD:SortSt):Prop:=Kp st aD/\((∃r,c.1=some r/\Good key a b r)∨(c.1=none/\Mg key a b c.2.1.toList c.2.2.1 c.2.2.2.1/\x+2<=c.2.2.1+c.2.2.2.1/\c.2.2.1+1<a.size/\c.2.2.2.1<b.size))
theorem EL {a b:Array Keyed}{st:SortSt}{Q:Array Keyed->SortSt->Prop}(hL:iC prog w A E s a₀ key kd)(hk:kindOf st=kd)(yd:∀p∈a.toList,p∈a₀.toList)(yf:∀p∈b.toList,p∈a₀.toList)
  (u9:Sg key a 0 a.size) (AU:Sg key b 0 b.size) (Gd:1<=a.size) (qM:1<=b.size) (h0:ky key b 0<=ky key a 0) (hl:∀j,j<b.size->ky key b j<=ky key a (a.size-1))
  (h:∀res aD,Kp st aD->Good key a b res->Q res aD):wpS (model prog w) A E s (xO a b) Q st:=by
 refine wpS_bind (m:=liftM (rule "list.sort.merge-lo")) (wpS_lift (wpAny_rule ⟨rfl,?_⟩))
 refine dg qM fun p e =>?_
 have mz:Mg key a b (#[]:Array Keyed).toList 0 0:=⟨Uq _,Uq _,u9,AU,by simp,.nil,(fun _ h=>by cases h),(fun _ h=>by cases h)⟩
 have m0:Mg key a b (#[p]:Array Keyed).toList 0 1:=mz.me e qM h0
 refine mQ (fun z1=>wpS_pure (h _ _ (Kp.refl _) (m0.done (.inr z1)))) fun z1 =>?_
 refine mQ (fun z2=>wpS_pure (h _ _ (Kp.refl _) (m0.last z2 hl))) fun z2 =>?_
 refine wpS_bind (wpS_get ?_)
 refine wpS_bind (wpS_mono (wpS_forRange
  (I:=HM key a b st)
  (Q:=LR key a b st) ?step ?fin ⟨Kp.refl _,_,_,_,_,rfl,m0,by omega,by omega,by omega⟩) ?post)
 case post=>
  rintro⟨c1,c⟩ aD ⟨kp,r,e1,g⟩
  cases e1
  exact wpS_pure (h _ _ kp g)
 case fin=>
  intro c aD
  refine ae.go ?_
  rintro kp out ia ib g rfl mm h1 h2 h3
  rw[Nat.zero_max] at h1
  omega
 case step=>
  intro x c fG _ hx
  refine ae.go ?_
  rintro kp1 out ia ib g rfl mm h1 h2 h3
  dsimp -zeta only
  refine wpS_bind (wpS_mono (wpS_forRange
   (I:=K1 key a b fG x)
   (Q:=Iw key a b fG x) ?mG ?fin1 ⟨rfl,out,ia,ib,_,_,rfl,mm,by omega,h2,h3⟩) ?post1)
  case fin1=>
   intro c aD
   refine ae.go ?_
   rintro rfl out ia ib p q rfl mm h1 h2 h3
   exact⟨rfl,.inr ⟨rfl,mm,by rw[Nat.zero_max] at h1;show x+2<=ia+ib;omega,h2,h3⟩⟩
  case mG=>
   intro y c aD _ hy
   refine ae.go ?_
   rintro rfl out ia ib p q rfl mm h1 h2 h3
   dsimp only
   refine dg h3 fun p1 e1=>dg (Wv h2) fun p2 e2 =>?_
   refine ltB hL (yf _ (mem_of e1)) (yd _ (mem_of e2)) (kp1.kind.trans hk) ?_
   rw[<-cZ (key:=key) e1,<-cZ (key:=key) e2]
   by_cases cc:ky key b ib<ky key a ia
   ·rw[decide_eq_true cc]
    dsimp only
    refine IE rfl ?_
    refine dg h3 fun p3 e3 =>?_
    have m1:=mm.me e3 h3 (Yy cc)
    refine mQ (fun z3=>wpS_pure ⟨rfl,.inl ⟨_,rfl,m1.done (.inr z3)⟩⟩) fun z3 =>?_
    refine lE (fun z4=>wpS_pure ⟨rfl,.inr ⟨rfl,m1,by show x+2<=ia+(ib+1);omega,h2,Uv h3 z3⟩⟩) fun z4 =>?_
    exact wpS_pure ⟨rfl,_,_,_,_,_,rfl,m1,by omega,h2,Uv h3 z3⟩
   ·rw[decide_eq_false cc]
    dsimp only
    refine Hk Jm ?_
    refine dg (Wv h2) fun p3 e3 =>?_
    have m1:=mm.mM e3 (by omega) (Int.not_lt.mp cc)
    refine mQ (fun z3=>wpS_pure ⟨rfl,.inl ⟨_,rfl,m1.last z3 hl⟩⟩) fun z3 =>?_
    refine lE (fun z4=>wpS_pure ⟨rfl,.inr ⟨rfl,m1,by show x+2<=ia+1+ib;omega,Uv h2 z3,h3⟩⟩) fun z4 =>?_
    exact wpS_pure ⟨rfl,_,_,_,_,_,rfl,m1,by omega,Uv h2 z3,h3⟩
  refine Eu fun c1 out ia ib p q =>?_
  intro bG hc
  have es:bG=fG:=hc.1
  subst es
  refine Or.elim hc.2 (fun gg =>?_) fun gg =>?_
  ·refine ae.el gg _ ?_
   intro r e1 gd
   have e1:c1=some r:=e1
   subst e1
   exact wpS_pure ⟨kp1,r,rfl,gd⟩
  have e1:c1=none:=gg.1
  have mm:Mg key a b out.toList ia ib:=gg.2.1
  have h1:x+2<=ia+ib:=gg.2.2.1
  have h2:ia+1<a.size:=gg.2.2.2.1
  have h3:ib<b.size:=gg.2.2.2.2
  clear gg hc
  subst e1
  dsimp -zeta only
  refine wpS_bind (wpS_lift (wpAny_rule ⟨rfl,?_⟩))
  refine wpS_bind (wpS_mono (wpS_forRange
   (I:=JW key a b st x)
   (Q:=Kx key a b st x) ?step2 ?fin2 ⟨kp1,out,ia,ib,_,_,_,rfl,mm,by omega,h2,h3⟩) ?post2)
  case fin2=>
   intro c aD
   refine ae.go ?_
   rintro kp out ia ib g p q rfl mm h1 h2 h3
   exact⟨kp,.inr ⟨rfl,mm,h1,h2,h3⟩⟩
  case post2=>
   refine D1 fun c1 out ia ib g p q =>?_
   intro cR hc
   have kp:Kp st cR:=hc.1
   refine Or.elim hc.2 (fun gg =>?_) fun gg =>?_
   ·refine ae.el gg _ ?_
    intro r e1 gd
    have e1:c1=some r:=e1
    subst e1
    exact wpS_pure ⟨kp,r,rfl,gd⟩
   have e1:c1=none:=gg.1
   have mm:Mg key a b out.toList ia ib:=gg.2.1
   have h1:x+2<=ia+ib:=gg.2.2.1
   have h2:ia+1<a.size:=gg.2.2.2.1
   have h3:ib<b.size:=gg.2.2.2.2
   clear gg hc
   subst e1
   dsimp only
   exact sR kp fun jF kk=>wpS_pure ⟨kk,_,_,_,_,rfl,mm,by omega,h2,h3⟩
  case step2=>
   intro y c cR _ hy
   refine ae.go ?_
   rintro kp out ia ib g p q rfl mm h1 h2 h3
   dsimp -zeta only
   extract_lets s1 o1 s2 i1 s3 i2 s4 mg s5 ac bc ib1 jp mg1
   refine rD (fun z:Nat=>jp () z) (fun _=>True) (fun g' _ =>?_) fun H =>?_
   rotate_left
   ·exact lE (fun _=>H _ trivial) fun _=>H _ trivial
   refine sR kp fun jF kk =>?_
   dsimp -zeta only [s1,o1,s2,i1,s3,i2,s4,mg,s5,ac,bc,ib1]
   have D9:kindOf jF=kd:=kk.kind.trans hk
   have eA:ia+(a.size-ia)=a.size:=Wd (U8 (Wv h2))
   refine dg h3 fun p1 e1 =>?_
   refine jR hL D9 yd (yf _ (mem_of e1)) (by rw[eA];exact sT u9) (Y2 eA) (by omega) fun k1 g1 =>?_
   obtain⟨g11,g12,g13⟩:=g1
   rw[<-cZ (key:=key) e1] at g12 g13
   dsimp -zeta only
   extract_lets ac2 jp2 o2 i3
   refine rD (fun z:Array Keyed×Nat=>jp2 () z.1 z.2) (fun z=>Mg key a b z.1.toList z.2 ib/\ia<=z.2/\z.2+1<a.size/\ky key b ib<=ky key a z.2) (fun z hz =>?_) fun H =>?_
   rotate_left
   ·refine lE (fun ka =>?_) fun ka =>?_
    ·have Kl:k1>0:=ka
     have kA:ia+k1<=a.size:=Js (Yc g11 ia) (Y2 eA)
     have m1:=mm.JN (k:=k1) kA (fun j j1 j2=>by have:=nU (g12 (j-ia) (Nat.sub_lt_left_of_lt_add j1 j2));rw[Wd j1] at this;exact this)
     refine mQ (fun z1=>wpS_pure ⟨kk,.inl ⟨_,rfl,m1.last z1 hl⟩⟩) fun z1 =>?_
     refine mQ (fun z2=>wpS_pure ⟨kk,.inl ⟨_,rfl,m1.done (.inl z2)⟩⟩) fun z2 =>?_
     exact H (o2,i3) ⟨m1,U4 _ _,Uv (Uv kA z2) z1,Yy (mS (g13 k1 (Jd _) (by omega)))⟩
    ·exact H (out,ia) ⟨mm,Jd _,h2,Yy (mS (g13 0 (by omega) (by omega)))⟩
   obtain⟨out2,ia2⟩:=z
   have m1:Mg key a b out2.toList ia2 ib:=hz.1
   have n1:ia<=ia2:=hz.2.1
   have n2:ia2+1<a.size:=hz.2.2.1
   have n3:ky key b ib<=ky key a ia2:=hz.2.2.2
   clear hz
   refine dg h3 fun p2 e2 =>?_
   have m2:=m1.me e2 h3 n3
   dsimp -zeta only [ac2]
   extract_lets o3
   refine mQ (fun z3=>wpS_pure ⟨kk,.inl ⟨_,rfl,m2.done (.inr z3)⟩⟩) fun z3 =>?_
   have eB:ib+1+(b.size-(ib+1))=b.size:=Wd h3
   have h4:ib+1<b.size:=Uv h3 z3
   refine dg (Wv n2) fun p3 e3 =>?_
   refine jR hL D9 yf (yd _ (mem_of e3)) (by rw[eB];exact sT AU) (Y2 eB) (Nat.sub_pos_of_lt h4) fun k2 g2 =>?_
   obtain⟨g21,g22,g23⟩:=g2
   rw[<-cZ (key:=key) e3] at g22 g23
   dsimp -zeta only
   extract_lets bc2 jp3 o4 i4
   refine rD (fun z:Array Keyed×Nat=>jp3 () z.1 z.2) (fun z=>Mg key a b z.1.toList ia2 z.2/\ib<=z.2/\z.2<b.size/\ky key a ia2<=ky key b z.2) (fun z hz =>?_) fun H =>?_
   rotate_left
   ·refine lE (fun kz =>?_) fun kz =>?_
    ·have kB:ib+1+k2<=b.size:=Js (Yc g21 _) (Y2 eB)
     have m3:=m2.KW (k:=k2) kB (fun j j1 j2=>by have:=jP (g22 (j-(ib+1)) (Nat.sub_lt_left_of_lt_add j1 j2));rw[Wd j1] at this;exact Yy this)
     refine mQ (fun z4=>wpS_pure ⟨kk,.inl ⟨_,rfl,m3.done (.inr z4)⟩⟩) fun z4 =>?_
     exact H (o4,i4) ⟨m3,Js (Y0 _) (U4 _ _),Uv kB z4,jT (g23 k2 (Jd _) (by omega))⟩
    ·exact H (o3,ib+1) ⟨m2,Y0 _,h4,jT (g23 0 (by omega) (Nat.sub_pos_of_lt h4))⟩
   obtain⟨out3,ib3⟩:=z
   have m3:Mg key a b out3.toList ia2 ib3:=hz.1
   have n4:ib<=ib3:=hz.2.1
   have n5:ib3<b.size:=hz.2.2.1
   have n6:ky key a ia2<=ky key b ib3:=hz.2.2.2
   clear hz
   refine dg (Wv n2) fun p4 e4 =>?_
   have m4:=m3.mM e4 (by omega) n6
   dsimp only[bc2]
   refine mQ (fun z5=>wpS_pure ⟨kk,.inl ⟨_,rfl,m4.last z5 hl⟩⟩) fun z5 =>?_
   refine lE (fun _ =>?_) fun _ =>?_
   ·exact wpS_pure ⟨kk,.inr ⟨rfl,m4,by dsimp only;omega,Uv n2 z5,n5⟩⟩
   ·exact wpS_pure ⟨kk,_,_,_,_,_,_,rfl,m4,by omega,Uv n2 z5,n5⟩
end
noncomputable def xM:Array Keyed->Array Keyed->StateT SortSt Sem (Array Keyed):=sortPriv% PySem.Builtin.mergeHi
section
variable {prog:Program}{w:World}{A:Around}{E:Value->Shared->Prop}{s:Shared}{a₀:Array Keyed}{key:Keyed->Int}{kd:SortKind}
theorem AJ {xs:Array Keyed}{n:Nat}(hn:n<=xs.size)(h:Sg key xs 0 xs.size):Sg key xs 0 (0+n):=fun p q h1 h2 h3=>h p q h1 h2 (by omega)
structure Mh (key:Keyed->Int)(a b:Array Keyed)(out:List Keyed)(na nb:Nat):Prop where
 ha:na<=a.size
 hb:nb<=b.size
 sa:Sg key a 0 a.size
 sb:Sg key b 0 b.size
 perm:(a.toList.take na++b.toList.take nb++out.reverse).Perm (a.toList++b.toList)
 so:Sl key out.reverse
 la:∀x∈a.toList.take na,∀y∈out,key x<=key y
 lb:∀x∈b.toList.take nb,∀y∈out,key x<=key y
theorem Mh.swap {a b:Array Keyed}{out:List Keyed}{na nb:Nat}(h:Mh key a b out na nb):Mh key b a out nb na:=
 ⟨h.hb,h.ha,h.sb,h.sa,((Yu).append_right _).trans (h.perm.trans Yu),h.so,h.lb,h.la⟩
theorem vM {xs:Array Keyed}{t n:Nat}{x:Keyed}(h:x∈(xs.toList.take n).drop t):∃j,t<=j/\j<n/\j<xs.size/\ky key xs j=key x:=by
 rw[List.drop_take] at h
 obtain⟨j,j1,j2,j3,e⟩:=mW (key:=key) h
 exact⟨j,j1,by omega,j3,e⟩
theorem Mh.tA {a b:Array Keyed}{out:List Keyed}{na nb t:Nat}(h:Mh key a b out na nb)(ht:t<=na)(hn:1<=nb)(q:∀j,t<=j->j<na->ky key b (nb-1)<=ky key a j):Mh key a b (out++((a.toList.take na).drop t).reverse) t nb:=by
 have e:a.toList.take na=a.toList.take t++(a.toList.take na).drop t:=by
  have:=Y6 t (a.toList.take na)
  rw[List.take_take,Ye ht] at this
  exact this.symm
 have sd:Sl key (a.toList.take na):=(g7 h.sa).sublist (Wc _ _)
 rw[e] at sd
 refine ae.el (Ue.mp sd) _ ?_
 rintro s1 s2 s3
 have ha:=h.ha
 have hb:=h.hb
 refine⟨by omega,h.hb,h.sa,h.sb,?_,?_,?_,?_⟩
 ·have p:=h.perm
  rw[e,Ug,Ug] at p
  rw[List.reverse_append,List.reverse_reverse,Ug]
  refine Ya.trans (Ya.append_left _ ?_) p
  rw[<-Ug,<-Ug]
  exact Yu.append_right _
 ·rw[List.reverse_append,List.reverse_reverse]
  exact Ue.mpr ⟨s2,h.so,fun x hx y hy=>h.la x (Ww hx) y (Wi.mp hy)⟩
 ·intro x hx y hy
  rcases Ji.mp hy with hy|hy
  ·exact h.la x (by rw[e];exact Ud _ hx) y hy
  ·exact s3 x hx y (Wi.mp hy)
 ·intro x hx y hy
  rcases Ji.mp hy with hy|hy
  ·exact h.lb x hx y hy
  ·obtain⟨j,j1,j2,j3,e1⟩:=vM (key:=key) (Wi.mp hy)
   obtain⟨i,i1,i2,e2⟩:=gO (key:=key) hx
   have:=q j j1 j2
   have:=h.sb i (nb-1) (by omega) (by omega) (by omega)
   omega
theorem Mh.tB {a b:Array Keyed}{out:List Keyed}{na nb t:Nat}(h:Mh key a b out na nb)(ht:t<=nb)(hn:1<=na)(q:∀j,t<=j->j<nb->ky key a (na-1)<=ky key b j):Mh key a b (out++((b.toList.take nb).drop t).reverse) na t:=
 (h.swap.tA ht hn q).swap
theorem Am {xs:Array Keyed}{n:Nat}{p:Keyed}(hn:1<=n)(h:xs[n-1]? = some p):((xs.toList.take n).drop (n-1)).reverse=[p]:=by
 rw[List.drop_take,show n-(n-1)=1 by omega,BZ h];rfl
theorem Mh.mM {a b out:Array Keyed}{na nb:Nat}{p:Keyed}(h:Mh key a b out.toList na nb)(hn:1<=na)(e:a[na-1]? = some p)(hb:1<=nb)(q:ky key b (nb-1)<=ky key a (na-1)):Mh key a b (out.push p).toList (na-1) nb:=by
 rw[Yl,<-Am hn e]
 exact h.tA (by omega) hb fun j j1 j2=>by rw[show j=na-1 by omega];exact q
theorem Mh.me {a b out:Array Keyed}{na nb:Nat}{p:Keyed}(h:Mh key a b out.toList na nb)(hn:1<=nb)(e:b[nb-1]? = some p)(hb:1<=na)(q:ky key a (na-1)<=ky key b (nb-1)):Mh key a b (out.push p).toList na (nb-1):=by
 rw[Yl,<-Am hn e]
 exact h.tB (by omega) hb fun j j1 j2=>by rw[show j=nb-1 by omega];exact q
theorem tQ {xs:Array Keyed}{t n:Nat}:(xs.extract t n).toList=(xs.toList.take n).drop t:=by
 rw[Array.toList_extract,List.extract_eq_take_drop,List.drop_take]
theorem Mh.JN {a b out:Array Keyed}{na nb t:Nat}(h:Mh key a b out.toList na nb)(ht:t<=na)(hn:1<=nb)(q:∀j,t<=j->j<na->ky key b (nb-1)<=ky key a j):Mh key a b (out++(a.extract t na).reverse).toList t nb:=by
 rw[U6,Array.toList_reverse,tQ]
 exact h.tA ht hn q
theorem Mh.KW {a b out:Array Keyed}{na nb t:Nat}(h:Mh key a b out.toList na nb)(ht:t<=nb)(hn:1<=na)(q:∀j,t<=j->j<nb->ky key a (na-1)<=ky key b j):Mh key a b (out++(b.extract t nb).reverse).toList na t:=by
 rw[U6,Array.toList_reverse,tQ]
 exact h.tB ht hn q
theorem zu {xs:Array Keyed}{n:Nat}:(xs.extract 0 n).toList=xs.toList.take n:=by rw[tQ,List.drop_zero]
theorem Mh.done {a b out:Array Keyed}{na nb:Nat}(h:Mh key a b out.toList na nb)(q:na=0∨nb=0):Good key a b (a.extract 0 na++b.extract 0 nb++out.reverse):=by
 unfold Good
 rw[U6,U6,zu,zu,Array.toList_reverse]
 refine⟨h.perm,Ue.mpr ⟨Ue.mpr ⟨(g7 h.sa).sublist (Wc _ _),(g7 h.sb).sublist (Wc _ _),fun x hx y hy =>?_⟩,h.so,fun x hx y hy =>?_⟩⟩
 ·obtain⟨j,j1,j2,_⟩:=gO (key:=key) hx
  obtain⟨i,i1,i2,_⟩:=gO (key:=key) hy
  omega
 ·rcases Ji.mp hx with hx|hx
  ·exact h.la x hx y (Wi.mp hy)
  ·exact h.lb x hx y (Wi.mp hy)
theorem Mh.first {a b out:Array Keyed}{na nb:Nat}(h:Mh key a b out.toList na nb)(e:nb=1)(q:ky key b 0<=ky key a 0):Good key a b (b.extract 0 nb++a.extract 0 na++out.reverse):=by
 unfold Good
 rw[U6,U6,zu,zu,Array.toList_reverse]
 refine⟨(Yu.append_right _).trans h.perm,Ue.mpr ⟨Ue.mpr ⟨(g7 h.sb).sublist (Wc _ _),(g7 h.sa).sublist (Wc _ _),fun x hx y hy =>?_⟩,h.so,fun x hx y hy =>?_⟩⟩
 ·obtain⟨j,j1,j2,e1⟩:=gO (key:=key) hx
  obtain⟨i,i1,i2,e2⟩:=gO (key:=key) hy
  have:=h.sa 0 i (by omega) (by omega) i2
  rw[show j=0 by omega] at e1
  omega
 ·rcases Ji.mp hx with hx|hx
  ·exact h.lb x hx y (Wi.mp hy)
  ·exact h.la x hx y (Wi.mp hy)
abbrev Lg (key:Keyed->Int)(a b:Array Keyed)(st:SortSt)(x:Nat)(c:Option (Array Keyed)×Nat×Nat×Array Keyed×Nat)(aD:SortSt):Prop:=Kp st aD/\∃na nb out g,c=(none,na,nb,out,g)/\Mh key a b out.toList na nb/\na+nb+x+1<=a.size+b.size/\1<=na/\2<=nb
abbrev JS (key:Keyed->Int)(a b:Array Keyed)(st:SortSt)(c:Option (Array Keyed)×Nat×Nat×Array Keyed×Nat)(aD:SortSt):Prop:=Kp st aD/\∃r,c.1=some r/\Good key a b r
abbrev HP (key:Keyed->Int)(a b:Array Keyed)(fG:SortSt)(x:Nat)(y:Nat)(c:Option (Array Keyed)×Nat×Nat×Array Keyed×Nat×Nat)(aD:SortSt):Prop:=aD=fG/\∃na nb out p q,c=(none,na,nb,out,p,q)/\Mh key a b out.toList na nb/\na+nb+x+1+y<=a.size+b.size/\1<=na/\2<=nb
abbrev Lq (key:Keyed->Int)(a b:Array Keyed)(fG:SortSt)(x:Nat)(c:Option (Array Keyed)×Nat×Nat×Array Keyed×Nat×Nat)(aD:SortSt):Prop:=aD=fG/\((∃r,c.1=some r/\Good key a b r)∨(c.1=none/\Mh key a b c.2.2.2.1.toList c.2.1 c.2.2.1/\c.2.1+c.2.2.1+x+2<=a.size+b.size/\1<=c.2.1/\2<=c.2.2.1))
abbrev KS (key:Keyed->Int)(a b:Array Keyed)(st:SortSt)(x:Nat)(y:Nat)(c:Option (Array Keyed)×Nat×Nat×Array Keyed×Nat×Nat×Nat)(aD:SortSt):Prop:=Kp st aD/\∃na nb out g p q,c=(none,na,nb,out,g,p,q)/\Mh key a b out.toList na nb/\na+nb+x+2<=a.size+b.size/\1<=na/\2<=nb
abbrev JU (key:Keyed->Int)(a b:Array Keyed)(st:SortSt)(x:Nat)(c:Option (Array Keyed)×Nat×Nat×Array Keyed×Nat×Nat×Nat)(aD:SortSt):Prop:=Kp st aD/\((∃r,c.1=some r/\Good key a b r)∨(c.1=none/\Mh key a b c.2.2.2.1.toList c.2.1 c.2.2.1/\c.2.1+c.2.2.1+x+2<=a.size+b.size/\1<=c.2.1/\2<=c.2.2.1))
theorem FW {a b:Array Keyed}{st:SortSt}{Q:Array Keyed->SortSt->Prop}(hL:iC prog w A E s a₀ key kd)(hk:kindOf st=kd)(yd:∀p∈a.toList,p∈a₀.toList)(yf:∀p∈b.toList,p∈a₀.toList)
  (u9:Sg key a 0 a.size) (AU:Sg key b 0 b.size) (Gd:1<=a.size) (qM:1<=b.size) (h0:ky key b 0<=ky key a 0) (hl:∀j,j<b.size->ky key b j<=ky key a (a.size-1))
  (h:∀res aD,Kp st aD->Good key a b res->Q res aD):wpS (model prog w) A E s (xM a b) Q st:=by
 refine wpS_bind (m:=liftM (rule "list.sort.merge-hi")) (wpS_lift (wpAny_rule ⟨rfl,?_⟩))
 refine dg (by omega) fun p e =>?_
 have mz:Mh key a b (#[]:Array Keyed).toList a.size b.size:=⟨Jd _,Jd _,u9,AU,by rw[<-Jw,<-Jw,Jz,Jz];simp,.nil,(fun _ _ _ h=>by cases h),(fun _ _ _ h=>by cases h)⟩
 have m0:Mh key a b (#[p]:Array Keyed).toList (a.size-1) b.size:=mz.mM Gd e qM (hl _ (by omega))
 refine mQ (fun z1=>wpS_pure (h _ _ (Kp.refl _) (m0.done (.inl z1)))) fun z1 =>?_
 refine mQ (fun z2=>wpS_pure (h _ _ (Kp.refl _) (m0.first z2 h0))) fun z2 =>?_
 refine wpS_bind (wpS_get ?_)
 refine wpS_bind (wpS_mono (wpS_forRange
  (I:=Lg key a b st)
  (Q:=JS key a b st) ?step ?fin ⟨Kp.refl _,_,_,_,_,rfl,m0,by omega,by omega,by omega⟩) ?post)
 case post=>
  rintro⟨c1,c⟩ aD ⟨kp,r,e1,g⟩
  cases e1
  exact wpS_pure (h _ _ kp g)
 case fin=>
  intro c aD
  refine ae.go ?_
  rintro kp na nb out g rfl mm h1 h2 h3
  rw[Nat.zero_max] at h1
  omega
 case step=>
  intro x c fG _ hx
  refine ae.go ?_
  rintro kp1 na nb out g rfl mm h1 h2 h3
  have ua:=mm.ha
  have ub:=mm.hb
  dsimp -zeta only
  refine wpS_bind (wpS_mono (wpS_forRange
   (I:=HP key a b fG x)
   (Q:=Lq key a b fG x) ?mG ?fin1 ⟨rfl,na,nb,out,_,_,rfl,mm,by omega,h2,h3⟩) ?post1)
  case fin1=>
   intro c aD
   refine ae.go ?_
   rintro rfl na nb out p q rfl mm h1 h2 h3
   exact⟨rfl,.inr ⟨rfl,mm,by rw[Nat.zero_max] at h1;dsimp only;omega,h2,h3⟩⟩
  case mG=>
   intro y c aD _ hy
   refine ae.go ?_
   rintro rfl na nb out p q rfl mm h1 h2 h3
   have ua:=mm.ha
   have ub:=mm.hb
   dsimp only
   have la:na-1<a.size:=Wb h2 mm.ha
   have BC:1<=nb:=Nat.le_of_succ_le h3
   have lb:nb-1<b.size:=Wb BC mm.hb
   refine dg (by first|assumption|omega) fun p1 e1=>dg (by first|assumption|omega) fun p2 e2 =>?_
   refine ltB hL (yf _ (mem_of e1)) (yd _ (mem_of e2)) (kp1.kind.trans hk) ?_
   rw[<-cZ (key:=key) e1,<-cZ (key:=key) e2]
   by_cases cc:ky key b (nb-1)<ky key a (na-1)
   ·rw[decide_eq_true cc]
    dsimp only
    refine IE rfl ?_
    refine dg (by first|assumption|omega) fun p3 e3 =>?_
    have m1:=mm.mM h2 e3 BC (by first|exact Yy cc|omega)
    refine mQ (fun z3=>wpS_pure ⟨rfl,.inl ⟨_,rfl,m1.done (.inl z3)⟩⟩) fun z3 =>?_
    refine lE (fun z4=>wpS_pure ⟨rfl,.inr ⟨rfl,m1,by dsimp only;omega,by dsimp only;omega,h3⟩⟩) fun z4 =>?_
    exact wpS_pure ⟨rfl,_,_,_,_,_,rfl,m1,by omega,by omega,h3⟩
   ·rw[decide_eq_false cc]
    dsimp only
    refine Hk Jm ?_
    refine dg (by first|assumption|omega) fun p3 e3 =>?_
    have m1:=mm.me BC e3 h2 (Int.not_lt.mp cc)
    refine mQ (fun z3=>wpS_pure ⟨rfl,.inl ⟨_,rfl,m1.first z3 h0⟩⟩) fun z3 =>?_
    refine lE (fun z4=>wpS_pure ⟨rfl,.inr ⟨rfl,m1,by dsimp only;omega,h2,by dsimp only;omega⟩⟩) fun z4 =>?_
    exact wpS_pure ⟨rfl,_,_,_,_,_,rfl,m1,by omega,h2,by omega⟩
  refine Eu fun c1 na nb out p q =>?_
  intro bG hc
  have es:bG=fG:=hc.1
  subst es
  refine Or.elim hc.2 (fun gg =>?_) fun gg =>?_
  ·refine ae.el gg _ ?_
   intro r e1 gd
   have e1:c1=some r:=e1
   subst e1
   exact wpS_pure ⟨kp1,r,rfl,gd⟩
  have e1:c1=none:=gg.1
  have mm:Mh key a b out.toList na nb:=gg.2.1
  have h1:na+nb+x+2<=a.size+b.size:=gg.2.2.1
  have h2:1<=na:=gg.2.2.2.1
  have h3:2<=nb:=gg.2.2.2.2
  clear gg hc
  subst e1
  dsimp -zeta only
  refine wpS_bind (wpS_lift (wpAny_rule ⟨rfl,?_⟩))
  refine wpS_bind (wpS_mono (wpS_forRange
   (I:=KS key a b st x)
   (Q:=JU key a b st x) ?step2 ?fin2 ⟨kp1,na,nb,out,_,_,_,rfl,mm,by omega,h2,h3⟩) ?post2)
  case fin2=>
   intro c aD
   refine ae.go ?_
   rintro kp na nb out g p q rfl mm h1 h2 h3
   exact⟨kp,.inr ⟨rfl,mm,h1,h2,h3⟩⟩
  case post2=>
   refine D1 fun c1 na nb out g p q =>?_
   intro cR hc
   have kp:Kp st cR:=hc.1
   refine Or.elim hc.2 (fun gg =>?_) fun gg =>?_
   ·refine ae.el gg _ ?_
    intro r e1 gd
    have e1:c1=some r:=e1
    subst e1
    exact wpS_pure ⟨kp,r,rfl,gd⟩
   have e1:c1=none:=gg.1
   have mm:Mh key a b out.toList na nb:=gg.2.1
   have h1:na+nb+x+2<=a.size+b.size:=gg.2.2.1
   have h2:1<=na:=gg.2.2.2.1
   have h3:2<=nb:=gg.2.2.2.2
   clear gg hc
   subst e1
   dsimp only
   exact sR kp fun jF kk=>wpS_pure ⟨kk,_,_,_,_,rfl,mm,by omega,h2,h3⟩
  case step2=>
   intro y c cR _ hy
   refine ae.go ?_
   rintro kp na nb out g p q rfl mm h1 h2 h3
   have ua:=mm.ha
   have ub:=mm.hb
   dsimp -zeta only
   extract_lets s1 o1 s2 i1 s3 i2 s4 mg s5 ac bc ib1 jp mg1
   refine rD (fun z:Nat=>jp () z) (fun _=>True) (fun g' _ =>?_) fun H =>?_
   rotate_left
   ·exact lE (fun _=>H _ trivial) fun _=>H _ trivial
   refine sR kp fun jF kk =>?_
   dsimp -zeta only [s1,o1,s2,i1,s3,i2,s4,mg,s5,ac,bc,ib1]
   have D9:kindOf jF=kd:=kk.kind.trans hk
   have BC:1<=nb:=Nat.le_of_succ_le h3
   have lb:nb-1<b.size:=Wb BC ub
   refine dg lb fun p1 e1 =>?_
   refine jR hL D9 yd (yf _ (mem_of e1)) (AJ ua u9) (by rw[Nat.zero_add];exact ua) (Nat.sub_one_lt (Yw h2)) fun k1 g1 =>?_
   obtain⟨g11,g12,g13⟩:=g1
   rw[<-cZ (key:=key) e1] at g12 g13
   simp only[Nat.zero_add] at g12 g13
   dsimp -zeta only
   extract_lets kx ac2 jp2 o2 na2
   refine rD (fun z:Nat×Array Keyed=>jp2 () z.1 z.2) (fun z=>Mh key a b z.2.toList z.1 nb/\1<=z.1/\z.1<=na/\ky key a (z.1-1)<=ky key b (nb-1)) (fun z hz =>?_) fun H =>?_
   rotate_left
   ·refine lE (fun ka =>?_) fun ka =>?_
    ·have Kl:na-k1>0:=ka
     have m1:=mm.JN (t:=k1) g11 BC (fun j j1 j2=>Yy (mS (g13 j j1 j2)))
     refine mQ (fun z1=>wpS_pure ⟨kk,.inl ⟨_,rfl,m1.done (.inl z1)⟩⟩) fun z1 =>?_
     have z2:¬k1=0:=z1
     exact H (na2,o2) ⟨m1,Nat.pos_of_ne_zero z2,g11,nU (g12 (k1-1) (Nat.sub_one_lt z2))⟩
    ·have Kl:¬na-k1>0:=ka
     exact H (na,out) ⟨mm,h2,Jd _,nU (g12 (na-1) (Wb h2 (Nat.le_of_sub_eq_zero (Nat.eq_zero_of_not_pos Kl))))⟩
   obtain⟨na3,out2⟩:=z
   have m1:Mh key a b out2.toList na3 nb:=hz.1
   have n1:1<=na3:=hz.2.1
   have n2:na3<=na:=hz.2.2.1
   have n3:ky key a (na3-1)<=ky key b (nb-1):=hz.2.2.2
   clear hz
   refine dg lb fun p2 e2 =>?_
   have m2:=m1.me BC e2 n1 n3
   dsimp -zeta only [ac2,kx]
   extract_lets o3
   refine mQ (fun z3=>wpS_pure ⟨kk,.inl ⟨_,rfl,m2.first z3 h0⟩⟩) fun z3 =>?_
   have Me:na3-1<a.size:=Wb n1 (Js n2 ua)
   have MT:2<=nb-1:=by omega
   have L3:0<nb-1:=J3 Nat.one_pos (Nat.le_of_succ_le MT)
   refine dg Me fun p3 e3 =>?_
   refine jR hL D9 yf (yd _ (mem_of e3)) (AJ (U8 lb) AU) (by rw[Nat.zero_add];exact U8 lb) (Nat.sub_one_lt (Yw L3)) fun k2 g2 =>?_
   obtain⟨g21,g22,g23⟩:=g2
   rw[<-cZ (key:=key) e3] at g22 g23
   simp only[Nat.zero_add] at g22 g23
   dsimp -zeta only
   extract_lets ky2 bc2 jp3 o4 nb4
   refine rD (fun z:Nat×Array Keyed=>jp3 () z.1 z.2) (fun z=>Mh key a b z.2.toList na3 z.1/\2<=z.1/\z.1<=nb/\ky key b (z.1-1)<=ky key a (na3-1)) (fun z hz =>?_) fun H =>?_
   rotate_left
   ·refine lE (fun kz =>?_) fun kz =>?_
    ·have Mf:nb-1-k2>0:=kz
     have m3:=m2.KW (t:=k2) g21 n1 (fun j j1 j2=>jT (g23 j j1 j2))
     refine mQ (fun z4=>wpS_pure ⟨kk,.inl ⟨_,rfl,m3.first z4 h0⟩⟩) fun z4 =>?_
     refine mQ (fun z7=>wpS_pure ⟨kk,.inl ⟨_,rfl,m3.done (.inr z7)⟩⟩) fun z7 =>?_
     have y4:¬k2=1:=z4
     have y7:¬k2=0:=z7
     exact H (nb4,o4) ⟨m3,by show 2<=k2;omega,Js g21 (Nat.sub_le _ _),Yy (jP (g22 (k2-1) (Nat.sub_one_lt y7)))⟩
    ·have Mf:¬nb-1-k2>0:=kz
     exact H (nb-1,o3) ⟨m2,MT,Nat.sub_le _ _,Yy (jP (g22 (nb-1-1) (Wb L3 (Nat.le_of_sub_eq_zero (Nat.eq_zero_of_not_pos Mf)))))⟩
   obtain⟨nb3,out3⟩:=z
   have m3:Mh key a b out3.toList na3 nb3:=hz.1
   have n4:2<=nb3:=hz.2.1
   have n5:nb3<=nb:=hz.2.2.1
   have n6:ky key b (nb3-1)<=ky key a (na3-1):=hz.2.2.2
   clear hz
   dsimp only[jp3]
   refine dg Me fun p4 e4 =>?_
   have m4:=m3.mM n1 e4 (Nat.le_of_succ_le n4) n6
   dsimp only[bc2,ky2]
   refine mQ (fun z5=>wpS_pure ⟨kk,.inl ⟨_,rfl,m4.done (.inl z5)⟩⟩) fun z5 =>?_
   refine lE (fun _=>wpS_pure ⟨kk,.inr ⟨rfl,m4,by dsimp only;omega,Nat.pos_of_ne_zero z5,n4⟩⟩) fun _ =>?_
   exact wpS_pure ⟨kk,_,_,_,_,_,_,rfl,m4,by omega,Nat.pos_of_ne_zero z5,n4⟩
end
section
variable {prog:Program}{w:World}{A:Around}{E:Value->Shared->Prop}{s:Shared}{a₀:Array Keyed}{key:Keyed->Int}{kd:SortKind}
theorem zZ {M:Model}{σ:Type}{st aD: σ}{Q:PUnit -> σ->Prop}(h:Q ⟨⟩ aD):wpS M A E s (set aD:StateT σ Sem PUnit) Q st:=by
 unfold wpS
 rw[StateT.run_set];exact wpAny_pure ⟨rfl,h⟩
theorem vp {sa:Nat}:∀(l:List Keyed) (n:Nat) (xs:Array Keyed),sa+n+l.length<=xs.size->∀k:Nat,
  ((l.zipIdx n).foldl (fun a (p:Keyed×Nat)=>a.setIfInBounds (sa+p.2) p.1) xs)[k]? = if sa+n<=k/\k<sa+n+l.length then l[k-(sa+n)]? else xs[k]?
 | [],n,xs,h,k=>by rw[List.zipIdx_nil,List.foldl_nil,if_neg (by simp only[Yx];omega)]
 | p::l,n,xs,h,k=>by
  rw[Jx] at h
  rw[List.zipIdx_cons,List.foldl_cons,vp l (n+1) _ (by rw[Array.size_setIfInBounds];omega),Jx]
  by_cases e1:sa+(n+1)<=k/\k<sa+(n+1)+l.length
  ·rw[if_pos e1,if_pos (by omega),show k-(sa+n)=(k-(sa+(n+1)))+1 by omega,List.getElem?_cons_succ]
  ·rw[if_neg e1,Array.getElem?_setIfInBounds]
   by_cases e2:sa+n=k
   ·subst e2
    rw[if_pos rfl,if_pos (by omega),if_pos (by omega),Nat.sub_self];rfl
   ·rw[if_neg e2,if_neg (by omega)]
noncomputable def wr (sa:Nat)(l:List Keyed)(xs:Array Keyed):Array Keyed:=l.zipIdx.foldl (fun a (p:Keyed×Nat)=>a.setIfInBounds (sa+p.2) p.1) xs
theorem w4 {sa:Nat}{l:List Keyed}{xs:Array Keyed}(h:sa+l.length<=xs.size)(k:Nat):(wr sa l xs)[k]? = if sa<=k/\k<sa+l.length then l[k-sa]? else xs[k]?:=vp l 0 xs h k
theorem zL {sa:Nat}{l:List Keyed}{xs:Array Keyed}(h:sa+l.length<=xs.size):(wr sa l xs).toList=xs.toList.take sa++(l++xs.toList.drop (sa+l.length)):=by
 refine List.ext_getElem? fun k =>?_
 have hl:(xs.toList.take sa).length=sa:=by rw[Jr,Jw];omega
 rw[Uk,w4 h]
 by_cases e1:k<sa
 ·rw[if_neg (by omega),Ut (by omega),List.getElem?_take_of_lt e1,Uk]
 ·rw[Ui (by omega),hl]
  by_cases e2:k<sa+l.length
  ·rw[if_pos (by omega),Ut (by omega)]
  ·rw[if_neg (by omega),Ui (by omega),List.getElem?_drop,<-Uk]
   congr 1;omega
theorem yD {sa:Nat}{l:List Keyed}{xs:Array Keyed}(h:sa+l.length<=xs.size)(hp:l.Perm ((xs.toList.drop sa).take l.length)):(wr sa l xs).Perm xs:=by
 refine Wk.mpr ?_
 rw[zL h]
 have e:xs.toList=xs.toList.take sa++((xs.toList.drop sa).take l.length++xs.toList.drop (sa+l.length)):=by
  rw[<-List.drop_drop,Y6,Y6]
 exact((hp.append_right _).append_left _).trans (Ya.of_eq e.symm)
theorem ju {xs:Array Keyed}{i j k:Nat}(hj:j<=xs.size)(hk:i+k<j):ky key (xs.extract i j) k=ky key xs (i+k):=by
 refine cS ?_
 rw[Array.getElem?_extract,if_pos (by omega)]
theorem vf {xs:Array Keyed}{i j:Nat}(hj:j<=xs.size)(gX:i<=j)(h:Sg key xs i j):Sg key (xs.extract i j) 0 (xs.extract i j).size:=by
 rw[Array.size_extract,Ye hj]
 intro p q _ h2 h3
 rw[ju hj (by omega),ju hj (by omega)]
 exact h _ _ (by omega) (by omega) (by omega)
theorem tK {xs:Array Keyed}{i j:Nat}{p:Keyed}(h:p∈(xs.extract i j).toList):p∈xs.toList:=by
 rw[tQ] at h
 exact Wu (Ww h)
structure Tb (a₀:Array Keyed)(kd:SortKind)(st:SortSt):Prop where
 perm:(arrOf st).Perm a₀
 kind:kindOf st=kd
 failed:failedOf st=none
theorem uE {xs:Array Keyed}{res:List Keyed}{sa u sb v e:Nat}(h1:sa<=u)(h2:u<=sb)(h3:sb<=v)(h4:v<=e)(h5:e<=xs.size)(h6:sa<sb)(len:u+res.length=v)(gp:res.Perm ((xs.toList.drop u).take res.length))(gs:res.Pairwise fun a b=>key a<=key b)
  (s1:Sg key xs sa sb) (s2:Sg key xs sb e) (hA:∀p,sa<=p->p<u->ky key xs p<=ky key xs sb) (hB:∀q,v<=q->q<e->ky key xs (sb-1)<=ky key xs q):Sg key (wr u res xs) sa e:=by
 have at':=w4 (sa:=u) (l:=res) (xs:=xs) (by omega)
 have lK:∀p,(p<u∨v<=p)->ky key (wr u res xs) p=ky key xs p:=fun p hp'=>by
  refine cS ?_
  rw[at' p,if_neg (by omega)]
 have fM:∀p,u<=p->p<v->∃x,res[p-u]? = some x/\ky key (wr u res xs) p=key x:=fun p a1 a2=>by
  obtain⟨x,hx⟩:∃x,res[p-u]? = some x:=⟨_,Jf (by omega)⟩
  exact⟨x,hx,cZ ((at' p).trans ((if_pos (by omega)).trans hx))⟩
 have hm:∀p,u<=p->p<v->∃j,u<=j/\j<v/\ky key (wr u res xs) p=ky key xs j:=fun p a1 a2=>by
  refine ae.el (fM p a1 a2) _ ?_
  rintro x hx ex
  have EE:=gp.mem_iff.mp (Yb.mpr ⟨_,hx⟩)
  obtain⟨j,j1,j2,j3,e4⟩:=mW (key:=key) EE
  exact⟨j,j1,by omega,by omega⟩
 have sl:sb-1<sb:=by omega
 intro p q g1 g2 g3
 by_cases a1:q<u
 ·have a0:=Jy g2 a1
  rw[lK p (.inl a0),lK q (.inl a1)];exact s1 p q g1 g2 (J3 a1 h2)
 have a1:=Y7 a1
 by_cases a2:q<v
 ·by_cases a3:p<u
  ·refine ae.el (hm q a1 a2) _ ?_
   rintro j j1 j2 ej
   rw[lK p (.inl a3),ej]
   by_cases a4:j<sb
   ·exact s1 p j g1 (Js (U8 a3) j1) a4
   ·exact Int.le_trans (hA p g1 a3) (s2 sb j (Jd _) (Y7 a4) (J3 j2 h4))
  ·have a3:=Y7 a3
   refine ae.el (fM p a3 (Jy g2 a2)) _ ?_
   rintro x hx ex
   refine ae.el (fM q a1 a2) _ ?_
   rintro y hy ey
   rw[ex,ey]
   by_cases a5:p=q
   ·subst a5
    rw[hx] at hy;cases hy;exact Yo _
   ·obtain⟨l1,e5⟩:=Ju.mp hx
    obtain⟨l2,e6⟩:=Ju.mp hy
    have:=Ux.mp gs _ _ l1 l2 (Nat.sub_lt_sub_right a3 (Uv g2 a5))
    rw[e5,e6] at this;exact this
 ·have a2:=Y7 a2
  rw[lK q (.inr a2)]
  have hq:=hB q a2 g3
  by_cases a3:p<u
  ·rw[lK p (.inl a3)]
   exact Int.le_trans (s1 p (sb-1) g1 (by omega) sl) hq
  ·by_cases a4:p<v
   ·refine ae.el (hm p (Y7 a3) a4) _ ?_
    rintro j j1 j2 ej
    rw[ej]
    by_cases a5:j<sb
    ·exact Int.le_trans (s1 j (sb-1) (Js h1 j1) (by omega) sl) hq
    ·exact s2 j q (Y7 a5) (Js (U8 j2) a2) g3
   ·have a4:=Y7 a4
    rw[lK p (.inr a4)]
    exact s2 p q (Js h3 a4) g2 g3
theorem qD {st:SortSt}{i sa na sb nb p1 p2:Nat}{L R:List (Nat×Nat×Nat)}{Q:Bool->SortSt->Prop}(hL:iC prog w A E s a₀ key kd)(hT:Tb a₀ kd st)
  (hp:(pendingOf st).toList=L++(sa,na,p1)::(sb,nb,p2)::R) (hi:L.length=i) (e1:sb=sa+na) (n1:1<=na) (n2:1<=nb) (hz:sb+nb<=a₀.size)
  (s1:Sg key (arrOf st) sa sb) (s2:Sg key (arrOf st) sb (sb+nb))
  (h:∀aD,Tb a₀ kd aD->(pendingOf aD).toList=L++(sa,na+nb,p1)::R->(∀k,k<sa∨sb+nb<=k->(arrOf aD)[k]? = (arrOf st)[k]?)->Sg key (arrOf aD) sa (sb+nb)->Q true aD) :
  wpS (model prog w) A E s (mergeAt' i) Q st:=by
 have hsz:=hT.perm.size_eq
 have g1:(pendingOf st)[i]? = some (sa,na,p1):=by
  rw[<-Uk,hp,Ui (by omega),hi,Nat.sub_self];rfl
 have g2:(pendingOf st)[i+1]? = some (sb,nb,p2):=by
  rw[<-Uk,hp,Ui (by omega),hi,show i+1-i=1 by omega];rfl
 have hP:(((pendingOf st).setIfInBounds i (sa,na+nb,p1)).eraseIdxIfInBounds (i+1)).toList=L++(sa,na+nb,p1)::R:=by
  have cc:i+1<((pendingOf st).setIfInBounds i (sa,na+nb,p1)).size:=by
   rw[Array.size_setIfInBounds,<-Jw,hp,Jc,Jx,Jx];omega
  rw[Array.eraseIdxIfInBounds,dif_pos cc,Array.toList_eraseIdx,Array.toList_setIfInBounds,hp]
  rw[List.set_append_right _ _ (by omega),hi,Nat.sub_self,List.set_cons_zero,List.eraseIdx_append_of_length_le (by omega),hi,show i+1-i=1 by omega]
  rfl
 refine wpS_bind (m:=get) (wpS_get ?_)
 dsimp only
 rw[g1,g2]
 dsimp only
 refine wpS_bind (zZ ?_)
 have am:∀p∈(arrOf st).toList,p∈a₀.toList:=fun p h'=>(Wk.mp hT.perm).mem_iff.mp h'
 refine wpS_bind (gR (xs:=arrOf st) (by omega) fun q1 f1 =>?_)
 refine wpS_bind (jc (arr:=arrOf st) hL (show kindOf (setPending st _)=kd from hT.kind) am (am _ (mem_of f1)) (by rw[<-e1];exact s1) (by omega) (by omega) fun k gk =>?_)
 obtain⟨k1,k2,k3⟩:=gk
 rw[<-cZ (key:=key) f1] at k2 k3
 obtain⟨d,rfl⟩:∃d,na=k+d:=Nat.exists_eq_add_of_le k1
 have eD:sb=sa+k+d:=by omega
 have hA:∀p,sa<=p->p<sa+k->ky key (arrOf st) p<=ky key (arrOf st) sb:=fun p h1 h2=>by
  have:=nU (k2 (p-sa) (by omega));rwa[show sa+(p-sa)=p by omega] at this
 dsimp only
 rw[We]
 refine mQ (fun z1 =>?_) fun z1 =>?_
 ·refine wpS_pure (h _ ⟨hT.perm,hT.kind,hT.failed⟩ hP (fun _ _=>rfl) fun p q h1 h2 h3 =>?_)
  show ky key (arrOf st) p<=ky key (arrOf st) q
  by_cases c1:q<sb
  ·exact s1 p q h1 h2 c1
  ·by_cases c2:sb<=p
   ·exact s2 p q c2 h2 h3
   ·exact Int.le_trans (hA p h1 (by omega)) (s2 sb q (Jd _) (by omega) h3)
 have d1:1<=d:=Nat.pos_of_ne_zero z1
 refine wpS_bind (gR (xs:=arrOf st) (by omega) fun q2 f2 =>?_)
 refine wpS_bind (jc (arr:=arrOf st) hL (show kindOf (setPending st _)=kd from hT.kind) am (am _ (mem_of f2)) s2 (by omega) (by omega) fun m gm =>?_)
 obtain⟨m1,m2,m3⟩:=gm
 rw[<-cZ (key:=key) f2,<-eD] at m2 m3
 have hB:∀q,sb+m<=q->q<sb+nb->ky key (arrOf st) (sb-1)<=ky key (arrOf st) q:=fun q h1 h2=>by
  have:=jT (m3 (q-sb) (by omega) (by omega));rwa[show sb+(q-sb)=q by omega] at this
 dsimp only
 have hC:=mS (k3 k (Jd _) (by omega))
 by_cases z2:m=0
 ·have:=hB sb (by omega) (by omega)
  have:=s1 (sa+k) (sb-1) (by omega) (by omega) (by omega)
  omega
 refine Hk (by simpa using z2) ?_
 have x1:((arrOf st).extract (sa+k) sb).size=d:=by rw[Array.size_extract,Ye (by omega),eD,We]
 have y1:((arrOf st).extract sb (sb+m)).size=m:=by rw[Array.size_extract,Ye (by omega),We]
 have sx:=vf (key:=key) (xs:=arrOf st) (i:=sa+k) (j:=sb) (by omega) (by omega) (fun p q h1 h2 h3=>s1 p q (by omega) h2 h3)
 have sy:=vf (key:=key) (xs:=arrOf st) (i:=sb) (j:=sb+m) (by omega) (by omega) (fun p q h1 h2 h3=>s2 p q h1 h2 (by omega))
 have h0:ky key ((arrOf st).extract sb (sb+m)) 0<=ky key ((arrOf st).extract (sa+k) sb) 0:=by
  rw[ju (by omega) (by omega),ju (by omega) (by omega)]
  exact Yy hC
 have hl:∀j,j<((arrOf st).extract sb (sb+m)).size->ky key ((arrOf st).extract sb (sb+m)) j<=ky key ((arrOf st).extract (sa+k) sb) (((arrOf st).extract (sa+k) sb).size-1):=fun j hj=>by
  rw[y1] at hj
  rw[x1,ju (by omega) (by omega),ju (by omega) (by omega),show sa+k+(d-1)=sb-1 by rw[eD,Nat.add_sub_assoc d1]]
  have:=jP (m2 j hj);omega
 have wb:∀(res:Array Keyed) (bG:SortSt),Kp (setPending st (((pendingOf st).setIfInBounds i (sa,k+d+nb,p1)).eraseIdxIfInBounds (i+1))) bG->Good key ((arrOf st).extract (sa+k) sb) ((arrOf st).extract sb (sb+m)) res->Q true (setArr bG (wr (sa+k) res.toList (arrOf bG))):=fun res bG kp gd=>by
  have ea:arrOf bG=arrOf st:=kp.arr
  obtain⟨gp,gs⟩:=gd
  have len:res.toList.length=d+m:=by rw[gp.length_eq,Jc,Jw,Jw,x1,y1]
  have hw:sa+k+res.toList.length<=(arrOf st).size:=by omega
  have eM:((arrOf st).extract (sa+k) sb).toList++((arrOf st).extract sb (sb+m)).toList=((arrOf st).toList.drop (sa+k)).take res.toList.length:=by
   rw[tQ,tQ,List.drop_take,List.drop_take,len,We,show sb-(sa+k)=d by rw[eD,We],List.take_add,List.drop_drop,<-eD]
  refine h _ ⟨?_,kp.kind.trans hT.kind,kp.failed.trans hT.failed⟩ ?_ (fun p hp' =>?_) fun p q h1 h2 h3 =>?_
  ·show(wr (sa+k) res.toList (arrOf bG)).Perm a₀
   rw[ea]
   exact(yD hw (gp.trans (Ya.of_eq eM))).trans hT.perm
  ·show(pendingOf bG).toList=_
   rw[kp.pend];exact hP
  ·show(wr (sa+k) res.toList (arrOf bG))[p]? = _
   rw[ea,w4 hw p,if_neg (by omega)]
  ·show ky key (wr (sa+k) res.toList (arrOf bG)) p<=ky key (wr (sa+k) res.toList (arrOf bG)) q
   rw[ea]
   exact uE (U4 _ _) (Js (U4 _ _) (Y2 eD.symm)) (U4 _ _) (Yc m1 _) (Js hz (Y2 hsz.symm)) (by omega) (by omega) (gp.trans (Ya.of_eq eM)) gs s1 s2 hA hB p q h1 h2 h3
 have yd:∀p∈((arrOf st).extract (sa+k) sb).toList,p∈a₀.toList:=fun p hp'=>am _ (tK hp')
 have yf:∀p∈((arrOf st).extract sb (sb+m)).toList,p∈a₀.toList:=fun p hp'=>am _ (tK hp')
 have tl:∀(res:Array Keyed) (bG:SortSt),Kp (setPending st (((pendingOf st).setIfInBounds i (sa,k+d+nb,p1)).eraseIdxIfInBounds (i+1))) bG->Good key ((arrOf st).extract (sa+k) sb) ((arrOf st).extract sb (sb+m)) res ->
   wpS (model prog w) A E s (do
    modify fun s=>setArr s (wr (sa+k) res.toList (arrOf s))
    return (failedOf (<-get)).isNone) Q bG:=fun res bG kp gd=>by
  refine wpS_bind (wpS_modify (wpS_bind (wpS_get (wpS_pure ?_))))
  have ef:failedOf (setArr bG (wr (sa+k) res.toList (arrOf bG)))=none:=kp.failed.trans hT.failed
  rw[ef]
  exact wb res bG kp gd
 refine lE (fun _ =>?_) fun _ =>?_
 ·exact wpS_bind (EL (a:=(arrOf st).extract (sa+k) sb) (b:=(arrOf st).extract sb (sb+m)) hL (show kindOf (setPending st _)=kd from hT.kind) yd yf sx sy (by omega) (by omega) h0 hl fun res bG kp gd=>tl res bG kp gd)
 ·exact wpS_bind (FW (a:=(arrOf st).extract (sa+k) sb) (b:=(arrOf st).extract sb (sb+m)) hL (show kindOf (setPending st _)=kd from hT.kind) yd yf sx sy (by omega) (by omega) h0 hl fun res bG kp gd=>tl res bG kp gd)
end
section
variable {prog:Program}{w:World}{A:Around}{E:Value->Shared->Prop}{s:Shared}{a₀:Array Keyed}{key:Keyed->Int}{kd:SortKind}
def gS (key:Keyed->Int)(xs:Array Keyed):Nat->List (Nat×Nat×Nat)->Nat->Prop
 | lo,[],hi=>lo=hi
 | lo,(s,n,_)::t,hi=>s=lo/\1<=n/\Sg key xs lo (lo+n)/\gS key xs (lo+n) t hi
theorem gS.le {xs:Array Keyed}:∀{L:List (Nat×Nat×Nat)} {lo hi:Nat},gS key xs lo L hi->lo+L.length<=hi
 | [],lo,hi,h=>by have h:lo=hi:=h;simp -iota only [Yx];omega
 | (s,n,p)::t,lo,hi,h=>by
  obtain⟨_,h1,_,h2⟩:=h
  have:=h2.le
  rw[Jx];omega
theorem gS.app {xs:Array Keyed}:∀{L R:List (Nat×Nat×Nat)} {lo mid hi:Nat},gS key xs lo L mid->gS key xs mid R hi->gS key xs lo (L++R) hi
 | [],R,lo,mid,hi,h,h'=>by have h:lo=mid:=h;rw[h];exact h'
 | (s,n,p)::t,R,lo,mid,hi,h,h'=>⟨h.1,h.2.1,h.2.2.1,h.2.2.2.app h'⟩
theorem gS.cut {xs:Array Keyed}:∀{L R:List (Nat×Nat×Nat)} {lo hi:Nat},gS key xs lo (L++R) hi->∃mid,gS key xs lo L mid/\gS key xs mid R hi
 | [],R,lo,hi,h=>⟨lo,rfl,h⟩
 | (s,n,p)::t,R,lo,hi,h=>by
  obtain⟨mid,h1,h2⟩:=gS.cut (L:=t) h.2.2.2
  exact⟨mid,⟨h.1,h.2.1,h.2.2.1,h1⟩,h2⟩
theorem rY {xs ys:Array Keyed}{i j:Nat}(e:∀k,i<=k->k<j->ys[k]? = xs[k]?)(h:Sg key xs i j):Sg key ys i j:=fun p q h1 h2 h3=>by
 rw[cS (e p h1 (by omega)),cS (e q (by omega) h3)];exact h p q h1 h2 h3
theorem gS.same {xs ys:Array Keyed}:∀{L:List (Nat×Nat×Nat)} {lo hi:Nat},(∀k,lo<=k->k<hi->ys[k]? = xs[k]?)->gS key xs lo L hi->gS key ys lo L hi
 | [],lo,hi,e,h=>h
 | (s,n,p)::t,lo,hi,e,h=>by
  obtain⟨h0,h1,h2,h3⟩:=h
  have:=h3.le
  exact⟨h0,h1,rY (fun k a b=>e k a (by omega)) h2,gS.same (fun k a b=>e k (by omega) b) h3⟩
theorem l9 {st:SortSt}{i hi:Nat}{Q:Bool->SortSt->Prop}(hL:iC prog w A E s a₀ key kd)(hT:Tb a₀ kd st)(hc:gS key (arrOf st) 0 (pendingOf st).toList hi)(hz:hi<=a₀.size)(u7:i+1<(pendingOf st).size)
  (h:∀aD,Tb a₀ kd aD->gS key (arrOf aD) 0 (pendingOf aD).toList hi->(pendingOf aD).size+1=(pendingOf st).size->(∀k,hi<=k->(arrOf aD)[k]? = (arrOf st)[k]?)->Q true aD):wpS (model prog w) A E s (mergeAt' i) Q st:=by
 have hl:i+1<(pendingOf st).toList.length:=by rw[Jw];exact u7
 obtain⟨⟨sa,na,p1⟩,e1⟩:∃y,(pendingOf st).toList[i]'(by omega)=y:=⟨_,rfl⟩
 obtain⟨⟨sb,nb,p2⟩,e2⟩:∃y,(pendingOf st).toList[i+1]'hl=y:=⟨_,rfl⟩
 have ep:(pendingOf st).toList=(pendingOf st).toList.take i++(sa,na,p1)::(sb,nb,p2)::(pendingOf st).toList.drop (i+2):=by
  have d1:=Y5 (i:=i) (l:=(pendingOf st).toList) (by omega)
  have d2:=Y5 (i:=i+1) (l:=(pendingOf st).toList) hl
  rw[e1] at d1
  rw[e2] at d2
  rw[<-d2,<-d1,Y6]
 have zH:=hc
 rw[ep] at zH
 refine ae.el (zH.cut) _ ?_
 rintro mid c1 c2
 obtain⟨rfl,n1,s1,c3⟩:=c2
 obtain⟨rfl,n2,s2,c4⟩:=c3
 have Qa:=c4.le
 refine qD hL hT ep (by rw[Jr];omega) rfl n1 n2 (by omega) s1 s2 fun aD t' p' o' s' =>?_
 refine h aD t' ?_ ?_ (fun k hk=>o' k (.inr (by omega)))
 ·rw[p']
  refine gS.app (mid:=sa) (c1.same fun k _ hk=>o' k (.inl hk)) ⟨rfl,by omega,?_,?_⟩
  ·rw[<-Nat.add_assoc];exact s'
  ·rw[<-Nat.add_assoc];exact c4.same fun k hk _=>o' k (.inr hk)
 ·have l1:=congrArg Ur p'
  have l2:=congrArg Ur ep
  rw[Jw] at l1 l2
  rw[l1,l2]
  simp -iota only [Jc,Jx]
  omega
theorem gS.pow {xs:Array Keyed}{f:Nat×Nat×Nat->Nat×Nat×Nat}(hf:∀y,(f y).1=y.1/\(f y).2.1=y.2.1):∀{L:List (Nat×Nat×Nat)} {i lo hi:Nat},gS key xs lo L hi->gS key xs lo (L.modify i f) hi
 | [],i,lo,hi,h=>by rw[List.modify_nil];exact h
 | (s,n,p)::t,0,lo,hi,h=>by
  rw[List.modify_zero_cons]
  obtain⟨e1,e2⟩:=hf (s,n,p)
  generalize f (s,n,p)=y at e1 e2
  obtain⟨y1,y2,y3⟩:=y
  dsimp only at e1 e2
  subst e1 e2
  exact h
 | (s,n,p)::t,i+1,lo,hi,h=>by
  rw[List.modify_succ_cons]
  exact⟨h.1,h.2.1,h.2.2.1,gS.pow hf h.2.2.2⟩
theorem yE {c:Prop}[Decidable c]{n:Nat}(h:1<n):(if c then n-2-1 else n-2)+1<n:=by
 by_cases z:c
 ·rw[if_pos z];omega
 ·rw[if_neg z];omega
theorem ED {α γ:Type}{m:StateT SortSt Sem α}{Q: α->SortSt->Prop}{st:SortSt}(V: γ->StateT SortSt Sem α)(G: γ->SortSt->Prop)(hV:∀z st,G z st->wpS (model prog w) A E s (V z) Q st)
  (hm:(∀z st,G z st->wpS (model prog w) A E s (V z) Q st)->wpS (model prog w) A E s m Q st):wpS (model prog w) A E s m Q st:=hm hV
theorem Ah {st:SortSt}{Q:Unit->SortSt->Prop}(hL:iC prog w A E s a₀ key kd)(hT:Tb a₀ kd st)(hp:pendingOf st = #[])
  (h:∀aD,Tb a₀ kd aD->Sg key (arrOf aD) 0 a₀.size->Q () aD):wpS (model prog w) A E s sortRuns' Q st:=by
 have hsz:=hT.perm.size_eq
 rw[sortRuns'_eq]
 refine wpS_bind (wpS_get ?_)
 dsimp -zeta only
 rw[hsz]
 refine wpS_bind (wpS_mono (wpS_forRange
  (I:=fun x c aD=>∃lo,c=(none,lo)/\Tb a₀ kd aD/\gS key (arrOf aD) 0 (pendingOf aD).toList lo/\lo<=a₀.size/\(x<=lo∨lo=a₀.size))
  (Q:=fun c aD=>c=(none,a₀.size)/\Tb a₀ kd aD/\gS key (arrOf aD) 0 (pendingOf aD).toList a₀.size) ?step ?fin ⟨0,rfl,hT,by rw[hp];rfl,Uq _,.inl (Jd _)⟩) ?post)
 case fin=>
  intro c aD
  refine ae.go ?_
  rintro lo rfl t ch h1 h2
  have:lo=a₀.size:=by omega
  subst this
  exact⟨rfl,t,ch⟩
 case post=>
  intro c fG
  refine ae.go ?_
  rintro rfl t1 ch1
  dsimp only
  refine wpS_bind (wpS_mono (wpS_forRange
   (I:=fun x c aD=>c=(none,())/\Tb a₀ kd aD/\gS key (arrOf aD) 0 (pendingOf aD).toList a₀.size/\((pendingOf aD).size<=1∨(pendingOf aD).size+x<=a₀.size))
   (Q:=fun c aD=>c=(none,())/\Tb a₀ kd aD/\gS key (arrOf aD) 0 (pendingOf aD).toList a₀.size/\(pendingOf aD).size<=1) ?step2 ?fin2 ⟨rfl,t1,ch1,.inr (by have:=ch1.le;rw[Jw] at this;omega)⟩) ?post2)
  case fin2=>
   intro c aD
   refine ae.go ?_
   rintro rfl t ch hs
   exact⟨rfl,t,ch,by omega⟩
  case post2=>
   intro c aD
   refine ae.go ?_
   rintro rfl t ch hs
   refine wpS_pure (h aD t ?_)
   cases e:(pendingOf aD).toList with
   | nil=>
    rw[e] at ch
    have ch:0=a₀.size:=ch
    intro p q _ _ h3;omega
   | cons y r=>
    have hl:(pendingOf aD).toList.length<=1:=by rw[Jw];exact hs
    rw[e] at ch hl
    have hr:r=[]:=by
     cases r with
     | nil=>rfl
     | cons _ _=>simp -iota only [Jx] at hl;omega
    subst hr
    obtain⟨y1,y2,y3⟩:=y
    obtain⟨_,_,g1,g2⟩:=ch
    have g2:0+y2=a₀.size:=g2
    rw[g2] at g1;exact g1
  case step2=>
   intro x c aD _ hx
   refine ae.go ?_
   rintro rfl t ch hs
   refine wpS_bind (wpS_get ?_)
   by_cases z:(pendingOf aD).size<=1
   ·rw[if_pos z]
    exact wpS_pure ⟨rfl,t,ch,z⟩
   ·rw[if_neg z]
    refine wpS_bind (l9 hL t ch (Jd _) (yE (by omega)) fun bG t2 ch2 L1 _ =>?_)
    exact wpS_pure ⟨rfl,t2,ch2,by omega⟩
 case step=>
  intro x c fG _ hx
  refine ae.go ?_
  rintro lo rfl t1 ch1 h1 h2
  dsimp -zeta only
  extract_lets l0 jp fc n2
  refine lE (fun z =>?_) fun z =>?_
  ·have:lo=a₀.size:=Nat.le_antisymm h1 z
   subst this
   exact wpS_pure ⟨rfl,t1,ch1⟩
  have z:¬lo>=a₀.size:=z
  have tl:∀(n:Nat) (bG:SortSt),Tb a₀ kd bG->1<=n->lo+n<=a₀.size->Sg key (arrOf bG) lo (lo+n)->∀p:Array (Nat×Nat×Nat),gS key (arrOf bG) 0 p.toList lo ->
    Tb a₀ kd (setPending bG (p.push (lo,n,0)))/\gS key (arrOf bG) 0 (p.push (lo,n,0)).toList (lo+n):=fun n bG t2 n1 n2 s2 p hp'=>by
   refine⟨⟨t2.perm,t2.kind,t2.failed⟩,?_⟩
   rw[Yl]
   exact hp'.app ⟨rfl,n1,s2,rfl⟩
  have af:Af a₀ kd lo fG fG:=⟨t1.perm,t1.kind,t1.failed,rfl,fun _ _=>rfl⟩
  have back:∀{bG:SortSt},Af a₀ kd lo fG bG->Tb a₀ kd bG/\gS key (arrOf bG) 0 (pendingOf bG).toList lo:=fun{bG} f=>⟨⟨f.perm,f.kind,f.failed⟩,by rw[f.pend];exact ch1.same fun k _ hk=>f.low k hk⟩
  refine ED (fun n:Nat=>jp () n) (fun n bG=>Af a₀ kd lo fG bG/\1<=n/\lo+n<=a₀.size/\Sg key (arrOf bG) lo (lo+n)) (fun m bG hz =>?_) fun H =>?_
  rotate_left
  ·refine wpS_bind (vk hL (by omega) (by omega) af fun m bG f2 m1 m2 s2 =>?_)
   dsimp only[l0,fc,n2]
   refine lE (fun zm =>?_) fun zm =>?_
   ·refine wpS_bind (wpS_lift (wpAny_rule ⟨rfl,?_⟩))
    refine wpS_bind (CB hL (by omega) (by omega) f2 s2 fun cR f3 s3 =>?_)
    simp -iota only [Bool.not_true,Ua,if_false]
    exact H _ cR ⟨f3,by omega,by omega,s3⟩
   ·exact H _ bG ⟨f2,m1,by omega,s2⟩
  obtain⟨f2,m1,m2,s2⟩:=hz
  have b2:=back f2
  refine wpS_bind (wpS_get ?_)
  dsimp only[l0]
  cases hb:(pendingOf bG).back? with
  | none=>
   dsimp only
   obtain⟨u1,u2⟩:=tl m bG b2.1 m1 m2 s2 (pendingOf bG) b2.2
   exact wpS_bind (wpS_modify (wpS_pure ⟨_,rfl,u1,u2,m2,.inl (by omega)⟩))
  | some y=>
   obtain⟨y1,y2,y3⟩:=y
   dsimp only
   refine wpS_bind (wpS_mono (wpS_forRange
    (I:=fun _ c aD=>c=(none,())/\Tb a₀ kd aD/\gS key (arrOf aD) 0 (pendingOf aD).toList lo/\Sg key (arrOf aD) lo (lo+m))
    (Q:=fun c aD=>c=(none,())/\Tb a₀ kd aD/\gS key (arrOf aD) 0 (pendingOf aD).toList lo/\Sg key (arrOf aD) lo (lo+m)) ?step4 (fun _ _ hh=>hh) ⟨rfl,b2.1,b2.2,s2⟩) ?post4)
   case post4=>
    intro c df
    refine ae.go ?_
    rintro rfl t5 c5 s5
    dsimp only
    have c6:gS key (arrOf df) 0 ((pendingOf df).modify ((pendingOf df).size-1) fun z=>(z.1,z.2.1,power' a₀.size (2*y1+y2) (2*y1+y2+y2+m) a₀.size)).toList lo:=by
     rw[Array.toList_modify]
     refine gS.pow (fun _ =>?_) c5
     exact⟨rfl,rfl⟩
    obtain⟨u1,u2⟩:=tl m df t5 m1 m2 s5 _ c6
    exact wpS_bind (wpS_modify (wpS_bind (wpS_modify (wpS_pure ⟨_,rfl,u1,u2,m2,.inl (by omega)⟩))))
   case step4=>
    intro x5 c df _ _
    refine ae.go ?_
    rintro rfl t5 c5 s5
    refine wpS_bind (wpS_get ?_)
    by_cases z5:(pendingOf df).size>1
    ·have LY:(pendingOf df).size-2<(pendingOf df).size:=by omega
     rw[if_pos z5,getElem?_pos (pendingOf df) ((pendingOf df).size-2) LY]
     obtain⟨⟨v1,v2,v3⟩,ev⟩:∃v,(pendingOf df)[(pendingOf df).size-2]'LY=v:=⟨_,rfl⟩
     rw[ev]
     dsimp only
     refine lE (fun _=>wpS_pure ⟨rfl,t5,c5,s5⟩) fun _ =>?_
     refine wpS_bind (l9 hL t5 c5 h1 (by omega) fun lA t6 c6 _ o6 =>?_)
     exact wpS_pure ⟨rfl,t6,c6,rY (fun k hk _=>o6 k hk) s5⟩
    ·rw[if_neg z5]
     exact wpS_pure ⟨rfl,t5,c5,s5⟩
end
open PySem.W
def GS (h base:Heap)(e:Addr)(cls a0:Value)(dx:Option Addr)(fl:Value):Prop:=∃oe vs T oT ts,
 h.get? e=some oe/\oe.cls=cls/\oe.dict=dx/\oe.data = .fields vs/\vs[0]? = some a0/\vs[1]? = some (.ref T)/\base.get? T=none/\T≠e/\h.get? T=some oT/\oT.data = .fields ts/\ts[3]? = some fl
def wC (base:Heap)(l:List Env)(e:Addr)(cls a0:Value)(dx:Option Addr)(h:Heap):Prop:=base.StaysIn h/\base.get? e=none/\h.FunFrames base l/\GS h base e cls a0 dx .none
def FL (base:Heap)(l:List Env)(e:Addr)(cls a0:Value)(dx:Option Addr)(L:Addr)(h:Heap):Prop:=base.StaysIn h/\base.get? e=none/\h.FunFrames base l/\GS h base e cls a0 dx (rawInt L)
theorem wC.own {base h:Heap}{l:List Env}{e:Addr}{cls a0:Value}{dx:Option Addr}(x:wC base l e cls a0 dx h):∃o,h.get? e=some o/\o.cls=cls/\o.dict=dx/\∃vs,o.data = .fields vs:=by
 obtain⟨_,_,_,oe,vs,T,oT,ts,a1,a2,a3,a4,_⟩:=x
 exact⟨oe,a1,a2,a3,vs,a4⟩
section
variable {M:Model}{A:Around}{E:Value->Shared->Prop}{s:Shared}{base:Heap}{env:Env}{outer:List Env}{L e:Addr}{cls a0:Value}{dx:Option Addr}{Q:Unit->Shared->Prop}
theorem rf {oe:Obj}{vs:Array Value}{head:Value}{hn:Bool}(t9:A.frames=some (env::outer))(lL:s.heap.FunFrames base (env::outer))(hf:env.frame=some L)(he:s.heap.get? e=some oe)(fP:base.StaysIn s.heap)(new:base.get? e=none)
  (hd:oe.data = .fields vs) (sz:1<vs.size) (h0:vs[0]? = some a0)
  (q:∀h',base.StaysIn h'->h'.FunFrames base (env::outer)->GS h' base e oe.cls a0 oe.dict (rawInt L)->s.heap.UpToSlots h'->Q () { s with heap:=h' }) :
  wpAny M A (do let a <-frameOf env;let pl <-entryPlaceOf L hn;let b <-EntryCells.newEntry head a .none (rawInt L) .none pl;setField (.ref e) 1 b) Q E s:=by
 have apart:e∉(env::outer).filterMap (·.frame):=fun m=>by
  obtain⟨_,o,ho,nf⟩:=lL.mem m
  rw[he] at ho;cases ho
  exact nf vs hd
 refine wpAny_bind (wpAny_frameOf_fun t9 lL hf fun h1 so=>wpAny_bind (wpAny_entryPlaceOf fun pl isp =>?_))
 unfold EntryCells.newEntry newFields
 refine wpAny_bind (wpAny_newObj_type ?_ (isp.sizeOk5 _ _ _ _ _))
 obtain⟨tr,etr⟩:∃tr:Obj,tr={ cls := .type "traceback",dict:=none,data := .fields ([head,.ref L,.none,rawInt L,.none]++(if pl.isEmpty then Jq 6 Value.none else pl)).toArray }:=⟨_,rfl⟩
 rw[<-etr]
 have e1:h1.get? e=some oe:=(so.2.1 e apart).trans he
 have fG:base.StaysIn h1:=fun b o x=>(so.2.1 b fun m=>by rw[(lL.mem m).1] at x;cases x).trans (fP b o x)
 have e2:(h1.push tr).get? e=some oe:=Je _ e1
 refine wpAny_setField e2 hd sz (q _ ?_ ?_ ?_ ?_)
 all_goals have nT:h1.objs.size≠e:=Yw (Jo e1)
 all_goals have kp:∀b o,b≠e->h1.get? b=some o->((h1.push tr).update e (Obj.mapFields (·.setIfInBounds 1 (Value.ref h1.objs.size)))).get? b=some o:=fun b o nb x=>(Us _ _ (Ne.symm nb)).trans (Je _ x)
 all_goals have nr:∀b o,s.heap.get? b=some o->(∀ws,o.data ≠ .fields ws)->b≠e:=fun b o x nf z=>(by rw[z,he] at x;cases x;exact nf vs hd)
 ·exact fun b o x=>kp b o (fun z=>by rw[z,new] at x;cases x) (fG b o x)
 ·refine lL.of_keeps fun b o x nf =>?_
  obtain⟨sl,hs⟩:=so.2.2 b o x
  exact⟨_,kp b _ (nr b o x nf) hs,rfl⟩
 ·have d3:=Obj.data_mapFields hd (·.setIfInBounds 1 (Value.ref h1.objs.size))
  have e3:=Uu (Obj.mapFields (·.setIfInBounds 1 (Value.ref h1.objs.size))) e2 (Obj.isFreed_of_fields d3)
  refine⟨_,_,h1.objs.size,tr,_,e3,Obj.cls_mapFields _ _,?_,d3,by rw[Array.getElem?_setIfInBounds_ne (by decide)];exact h0,by simp[sz],fG.fresh,nT,(Us _ _ (Ne.symm nT)).trans (Jv h1 (by rw[etr];rfl)),by rw[etr],?_⟩
  ·obtain⟨c1,c2,c3,c4⟩:=oe
   cases c3<;>rfl
  ·first
    | (simp;done)
    | (rcases isp with rfl|⟨_,_,_,_,_,_,_,rfl⟩<;>simp)
 ·intro b o x nf
  obtain⟨sl,hs⟩:=so.2.2 b o x
  exact⟨sl,kp b _ (nr b o x nf) hs⟩
theorem slot_set {T:Addr}{oT:Obj}{ts:Array Value}{x:Value}(hT:s.heap.get? T=some oT)(dT:oT.data = .fields ts)(nT:base.get? T=none)(fP:base.StaysIn s.heap){l:List Env}(lL:s.heap.FunFrames base l):
  (∀b,b≠T->(s.heap.update T (Obj.mapFields (·.setIfInBounds 3 x))).get? b=s.heap.get? b)/\base.StaysIn (s.heap.update T (Obj.mapFields (·.setIfInBounds 3 x)))/\(s.heap.update T (Obj.mapFields (·.setIfInBounds 3 x))).FunFrames base l /\
   ∀b o,s.heap.get? b=some o->(∀ws,o.data ≠ .fields ws)->(s.heap.update T (Obj.mapFields (·.setIfInBounds 3 x))).get? b=some o:=by
 have off:∀b,b≠T->(s.heap.update T (Obj.mapFields (·.setIfInBounds 3 x))).get? b=s.heap.get? b:=fun b nb=>Us _ _ (Ne.symm nb)
 have kp:∀b o,s.heap.get? b=some o->(∀ws,o.data ≠ .fields ws)->(s.heap.update T (Obj.mapFields (·.setIfInBounds 3 x))).get? b=some o:=fun b o z nf=>
  (off b fun w=>by rw[w,hT] at z;cases z;exact nf ts dT).trans z
 exact⟨off,fun b o z=>(off b fun w=>by rw[w,nT] at z;cases z).trans (fP b o z),lL.of_keeps fun b o z nf=>⟨o,kp b o z nf,rfl⟩,kp⟩
theorem yz (t9:A.frames=some (env::outer))(hf:env.frame=some L)(Dq:wC base (env::outer) e cls a0 dx s.heap)(q:∀h',FL base (env::outer) e cls a0 dx L h'->s.heap.UpToSlots h'->Q () { s with heap:=h' }):wpAny M A (noteFrame (.ref e) env) Q E s:=by
 obtain⟨fP,new,lL,oe,vs,T,oT,ts,he,rfl,rfl,hd,h0,h1,nT,ne,hT,dT,h3⟩:=Dq
 obtain⟨off,bG,fu2,kp⟩:=slot_set (x := .none) hT dT nT fP lL
 unfold noteFrame
 simp only[hf]
 refine wpAny_bind (wpAny_field he hd h1 ?_)
 rw[if_pos (show(Value.ref T != Value.none)=true by simp)]
 refine wpAny_bind (wpAny_field hT dT h3 ?_)
 rw[if_neg (show ¬((Value.none==rawInt L)=true) by simp[rawInt])]
 refine wpAny_bind (wpAny_setField hT dT (Y3.mp h3).1 ?_)
 refine rf t9 fu2 hf ((off e (Ne.symm ne)).trans he) bG new hd (Y3.mp h1).1 h0 fun h' k1 k2 k3 k4=>q h' ⟨k1,new,k2,k3⟩ fun b o z nf=>k4 b o (kp b o z nf) nf
theorem lands {l:List Env}{fl:Value}(fP:base.StaysIn s.heap)(new:base.get? e=none)(lL:s.heap.FunFrames base l)(tr:GS s.heap base e cls a0 dx fl)(q:∀h',wC base l e cls a0 dx h'->s.heap.UpToSlots h'->Q () { s with heap:=h' }):
  wpAny M A (setFlight (.ref e) none) Q E s:=by
 obtain⟨oe,vs,T,oT,ts,he,rfl,rfl,hd,h0,h1,nT,ne,hT,dT,h3⟩:=tr
 have Mo:3<ts.size:=(Y3.mp h3).1
 obtain⟨off,bG,fu2,kp⟩:=slot_set (x:=(none:Option Addr).elim Value.none fun f=>rawInt f) hT dT nT fP lL
 unfold setFlight
 refine wpAny_bind (wpAny_field he hd h1 ?_)
 rw[if_pos (show(Value.ref T != Value.none)=true by simp)]
 have Mz:=Obj.data_mapFields dT (·.setIfInBounds 3 ((none:Option Addr).elim Value.none fun f=>rawInt f))
 exact wpAny_setField hT dT Mo (q _ ⟨bG,new,fu2,oe,vs,T,_,_,(off e (Ne.symm ne)).trans he,rfl,rfl,hd,h0,h1,nT,ne,Uu _ hT (Obj.isFreed_of_fields Mz),Mz,by simp[Mo]⟩ fun b o z nf=>⟨o.slots,kp b o z nf⟩)
end
theorem eK.part {P:Program}{w:World}{H:Hp}{h h' B:Heap}(x:eK P w H h)(hB:B.StaysIn h)(fA:B.StaysIn h')(fM:∀b u,H b=some u->∃o,B.get? b=some o):eK P w H h':=fun a o e=>
 (x a o e).fP (fun b u hb q=>by
  obtain⟨o',eo⟩:∃o',B.get? b=some o':=by
   rcases hb with hb|hb
   ·subst hb;exact fM _ _ e
   ·exact fM _ _ hb
  have:=hB b o' eo
  rw[q] at this;cases this
  exact fA b _ eo) (fun _ q=>q) fun _ _ q=>q
def NZ (P:Program)(w:World)(base:Heap):sv:=fun outer H s E e s'=>zW fun ea cls t B H' dx=>e = .ref ea/\s'.os=s.os/\AllBare s'.gens/\Un (i8 outer) [] H H' s.heap s'.heap/\eK P w H' s'.heap /\
 base.StaysIn B/\(∀b o,s.heap.get? b=some o->b∉i8 outer->∃o',B.get? b=some o')/\(∀b u,H' b=some u->∃o',B.get? b=some o')/\wC B outer ea cls (.ref t) dx s'.heap/\E cls dx H'
theorem vn {base h:Heap}:∀{l:List Env} {b:Addr},h.FunFrames base l->b∈i8 l->∃o,h.get? b=some o/\∀vs,o.data ≠ .fields vs:=fun{l b} hl hb=>by
 refine ae.el (hl.mem hb) _ ?_
 rintro _ o e n
 exact⟨o,e,n⟩
def Et (X:Cx)(pins:List (Addr×Obj))(σ0:St)(E':XK):Value->Shared->Prop:=fun e s'=>fR fun iX H s=>Inv X (pins++iX) σ0 H s/\NZ X.prog X.w X.base X.stack H s E' e s'
noncomputable def xB (X:Cx)(pins:List (Addr×Obj))(σ0:St)(E':XK):Cx:={ X with pn:=X.pn++pins,xe:=Et X pins σ0 E' }
noncomputable def xH (X:Cx)(e:Addr):Cx:={ X with A:=X.A.mark (some (.ref e)),calm:=false,xe:=fun _ _=>False }
section
variable {X:Cx}{pins iX:List (Addr×Obj)}{σ σ0:St}{E':XK}{H:Hp}{s:Shared}
theorem Inv.NI (I:Inv X pins σ H s):Inv (xB X pins σ0 E') [] σ H s:=
 ⟨⟨I.ok.mod,I.ok.kind,I.ok.glob,I.ok.blt,I.ok.above,I.ok.inj,I.ok.has,I.ok.cab,I.ok.hd,I.ok.frames,I.ok.stk,I.ok.exf,I.ok.bs,I.ok.bsz,I.ok.noex,I.ok.exfs,I.ok.g5,I.ok.qP⟩,I.os,I.bare,I.base,I.loc,I.cell,I.free,I.freeC,
  fun p hp=>I.pin p (by have hp:p∈(X.pn++pins)++[]:=hp;simpa using hp),I.aZ,I.len⟩
theorem Inv.GI (I:Inv (xB X pins σ0 E') iX σ H s):Inv X (pins++iX) σ H s:=
 ⟨⟨I.ok.mod,I.ok.kind,I.ok.glob,I.ok.blt,I.ok.above,I.ok.inj,I.ok.has,I.ok.cab,I.ok.hd,I.ok.frames,I.ok.stk,I.ok.exf,I.ok.bs,I.ok.bsz,I.ok.noex,I.ok.exfs,I.ok.g5,I.ok.qP⟩,I.os,I.bare,I.base,I.loc,I.cell,I.free,I.freeC,
  fun p hp=>I.pin p (by show p∈(X.pn++pins)++iX;simpa [Ug] using hp),I.aZ,I.len⟩
theorem Inv.Mp {e:Addr}(I:Inv X pins σ H s):Inv (xH X e) pins σ H s:=
 ⟨⟨I.ok.mod,I.ok.kind,I.ok.glob,I.ok.blt,I.ok.above,I.ok.inj,I.ok.has,I.ok.cab,fun z=>Bool.noConfusion z,I.ok.frames,I.ok.stk,I.ok.exf,I.ok.bs,I.ok.bsz,I.ok.noex,I.ok.exfs,I.ok.g5,I.ok.qP⟩,I.os,I.bare,I.base,I.loc,I.cell,I.free,I.freeC,I.pin,I.aZ,I.len⟩
theorem Inv.G6 {e:Addr}(k:X.Ok)(I:Inv (xH X e) pins σ H s):Inv X pins σ H s:=
 ⟨k,I.os,I.bare,I.base,I.loc,I.cell,I.free,I.freeC,I.pin,I.aZ,I.len⟩
end
theorem Un.land {st:List Env}{H H':Hp}{h h1 h3 B:Heap}(u:Un (i8 st) [] H H' h h1)(hold:∀b o,h.get? b=some o->b∉i8 st->∃o',B.get? b=some o')(k1:B.StaysIn h1)(k3:B.StaysIn h3)(hf:h1.FunFrames B st)(up:h1.UpToSlots h3):
  Un (i8 st) [] H H' h h3:=by
 have step:∀b o,h.get? b=some o->b∉i8 st->∀o1,h1.get? b=some o1->h3.get? b=some o1:=fun b o q hb o1 e1=>by
  obtain⟨o',eo⟩:=hold b o q hb
  have e2:=k1 b o' eo
  rw[e1] at e2;cases e2
  exact k3 b _ eo
 have sl:∀b o,b∈i8 st->h1.get? b=some o->∃l,h3.get? b=some { o with slots:=l }:=fun b o hb q=>by
  refine ae.el (vn hf hb) _ ?_
  rintro o' e' nf
  rw[q] at e';cases e'
  exact up b o q nf
 refine⟨fun b o q n hb hx=>step b o q hb o (u.keep b o q n hb hx),fun b o q n hb hx =>?_,u.free,fun b o q hx =>?_,u.fU,u.eV,u.gF⟩
 ·obtain⟨l1,e1⟩:=u.slot b o q n hb hx
  obtain⟨l2,e2⟩:=sl b _ hb e1
  exact⟨l2,e2⟩
 ·obtain⟨o1,e1⟩:=u.there b o q hx
  by_cases hb:b∈i8 st
  ·obtain⟨l,e2⟩:=sl b o1 hb e1
   exact⟨_,e2⟩
  ·exact⟨o1,step b o q hb o1 e1⟩
theorem uh {M:Model}{h:Heap}{e:Addr}{o:Obj}(he:h.get? e=some o):Looks M h (typeOf (.ref e)) o.cls:=by
 exact(Looks.ld he).andThen .now
section
variable {X:Cx}{L:Addr}
def Eb (K:Jb)(C:Addr)(tb:St->XK->TS)(th:TS):TS:=fun D σ H=>∃E':XK,tb σ E' D σ H/\∀cls dx H',E' cls dx H'->exmOne K cls (.ref C)=some true/\th D σ H'
theorem yB {c:Str}{C:Addr}{body Ax:List Stmt}{b0:Stmt}{tb:St->XK->TS}{th:TS}{np hp pos:Pos}(hR:X.stack=X.env::X.outer)(Pr:X.env.frame=some L)(hg:Gl X c)(hm:X.mg c=some (.ref C))
  (hb:∀pins σ0 E',rP (xB X pins σ0 E') body (tb σ0 E')) (hh:∀e,rP (xH X e) (b0::Ax) th) (hd:(c==("__debug__" : Str))=false:=by decide) :
  PS X (.Try body [.ExceptHandler (some (.Name c np)) none (b0::Ax) hp] [] [] pos) (Eb X.K C tb th):=by
 intro pins s σ H D I h
 obtain⟨E',C5,hc⟩:=h
 refine wpAny_Try_except (wpAny_mono (hb pins σ E' s σ H D I.NI C5) (fun f s1 q =>?_) fun ev s1 q =>?_)
 ·cases f with
  | next=>
   obtain⟨σ',H',J,q⟩:=q
   have J:=J.GI
   rw[Uh] at J
   exact wpAny_execs_nil ⟨σ',H',J,q⟩
  | brk=>
   obtain⟨σ',H',J,q⟩:=q
   have J:=J.GI
   rw[Uh] at J
   exact⟨σ',H',J,q⟩
  | cont=>
   obtain⟨σ',H',J,q⟩:=q
   have J:=J.GI
   rw[Uh] at J
   exact⟨σ',H',J,q⟩
  | ret u=>
   obtain⟨v,σ',H',J,r,q⟩:=q
   have J:=J.GI
   rw[Uh] at J
   exact⟨v,σ',H',J,r,q⟩
 ·obtain⟨iX,H1,s0,J,ea,cls,t,B,H',dx,rfl,os',bare',u1,xo,hbB,hold,fM,Dq,q⟩:=q
  obtain⟨hx,ht⟩:=hc _ _ _ q
  have t9:X.A.frames=some (X.env::X.outer):=by rw[<-hR];exact J.ok.frames
  have Ff:=Dq
  rw[hR] at Ff
  refine yz t9 Pr Ff fun h4 held4 up4 =>?_
  refine lands held4.1 held4.2.1 held4.2.2.1 held4.2.2.2 fun h5 fly5 up5 =>?_
  have at_:∀{h9:Heap},B.StaysIn h9->s1.heap.UpToSlots h9->Inv X pins σ H' { s1 with heap:=h9 }:=fun{h9} k9 up9=>
   (J.pF (s':={ s1 with heap:=h9 }) (ch:=[]) os' (u1.land hold Dq.1 k9 Dq.2.2.1 up9) (xo.part Dq.1 k9 fM) bare' (fun b z=>absurd z (by simp))).cW
  have J5:=at_ fly5.1 (up4.trans up5)
  obtain⟨ob,FI,hcl,_⟩:=fly5.own
  refine wpAny_handleBy_cons (codeAny_handlers_test (nQ (X:=xH X ea) J5.Mp hg hm ?_ hd)) (by intro z;cases z)
  refine exm_one (K:=X.K) J5.lV (by rw[<-hcl];exact uh FI) hx _ _ _ _ (fun b o z=>z) ?_
  refine codeAny_handlers_suite (lands fly5.1 fly5.2.1 fly5.2.2.1 fly5.2.2.2 fun h6 fly6 up6 =>?_)
  have J6:=at_ fly6.1 ((up4.trans up5).trans up6)
  refine wpAny_mono (hh ea _ σ H' D J6.Mp ht) (fun f s7 q7 =>?_) fun _ _ z=>False.elim z
  cases f with
  | next=>obtain⟨σ',H7,J7,q7⟩:=q7;exact⟨σ',H7,J7.G6 J.ok,q7⟩
  | brk=>obtain⟨σ',H7,J7,q7⟩:=q7;exact⟨σ',H7,J7.G6 J.ok,q7⟩
  | cont=>obtain⟨σ',H7,J7,q7⟩:=q7;exact⟨σ',H7,J7.G6 J.ok,q7⟩
  | ret u=>obtain⟨v,σ',H7,J7,r,q7⟩:=q7;exact⟨v,σ',H7,J7.G6 J.ok,r,q7⟩
end
section
variable {X:Cx}{pos:Pos}
def vj:TE:=fun _ H Q=>∀p H',dz H p (.dK []) H'->Q (.ref p) H'
theorem xJ:PE X (.Dict [] [] pos) vj:=by
 have e:vj=xy:=by
  funext σ H Q
  exact(jW (F:=fun p H'=>Q (.ref p) H')).symm
 rw[e];exact vo
end
section
variable {X:Cx}
theorem yL:dB X (binaryOp .Mult) (fun x y H Q=>∃(z:Str) (n:Int),x = .str z/\y = .int n/\MulOk z n/\Q (.str (Txt.mul z n)) H):=by
 intro pins s σ H x y v u Q I rx ry h
 obtain⟨z,n,rfl,rfl,ok,q⟩:=h
 obtain⟨t,rfl⟩:=rx
 obtain⟨t',rfl⟩:=ry
 exact SB.mul ok fun t' k=>⟨.str _,H,I.tok _,⟨_,rfl⟩,q⟩
def EK:R2:=fun x y H Q=>AM x y H Q∨∃(z:Str) (n:Int),x = .str z/\y = .int n/\MulOk z n/\Q (.str (Txt.mul z n)) H
theorem B9:dB X (binaryOp .Mult) EK:=nq.or yL
theorem gf {z:Str}{n:Int}(h1:z.length<=1000)(h2:n<=1000)(h3: -1000<=n):MulOk z n:=by
 refine⟨?_,fun a _ =>?_,fun a _ =>?_⟩
 ·rw[decide_eq_false (by omega),decide_eq_false (by omega)];rfl
 ·have:(1000:Int)<=(2^63-1) / n:=by
   rw[Int.le_ediv_iff_mul_le (by omega)]
   omega
  omega
 ·have:z.length*n.toNat<=1000*1000:=Nat.mul_le_mul h1 (by omega)
  show decide (_>sizeLine)=false
  simp
  exact Js this (by decide)
end
noncomputable def oneMore {K:Type}[DecidableEq K](D:List K)(k:K):List K:=if k∈D then D else D++[k]
noncomputable def bN {K:Type}[DecidableEq K](ks:Nat->K):Nat->List K
 | 0=>[]
 | i+1=>oneMore (bN ks i) (ks i)
theorem ir {K:Type}[DecidableEq K](ks:Nat->K):∀i,(bN ks i).length<=i
 | 0=>Jd _
 | i+1=>by
  have:=ir ks i
  unfold bN oneMore
  split
  ·omega
  ·rw[Jc];exact Wh this
section
variable {prog:Program}{w:World}{K:Type}[DecidableEq K]{knd:PySem.KeyKind prog w K}
def i5 (knd:PySem.KeyKind prog w K)(h:Heap)(a:Addr)(D:List K):Prop:=h.SetOf knd a (fun k=>decide (k∈D)) D.length
theorem i5.at' {h h':Heap}{a:Addr}{D:List K}(x:i5 knd h a D)(k:∀o,h.get? a=some o->h'.get? a=some o):i5 knd h' a D:=by
 obtain⟨o,es,ep,t,e,r⟩:=x
 exact⟨o,es,ep,t,k _ e,r⟩
variable {A:Around}{R:Result->Shared->Prop}{I:Addr}{fp wr:List Addr}{G:Array GenState->Array GenState->Prop}{n:Nat}{P:Nat->Value->Prop}{St:Nat->Shared->Prop}
end
noncomputable abbrev bZ (led:Bool):Obj:={ cls := .type "set",dict:=none,data := .set #[] 0 (.fresh 0 0 led) }
noncomputable def ow (zs:List Str):List Str:=bN (fun i=>zs.getD i Str.empty) zs.length
def Up (xs:List Nat):Prop:=xs.Pairwise (· < ·)
theorem Up.lt {xs:Array Nat}(h:Up xs.toList){i j:Nat}(hj:j<xs.size)(gX:i<j):xs[i]<xs[j]:=by
 have:=Ux.mp h i j (by simpa using Wq gX hj) (by simpa using hj) gX
 simpa using this
structure Cut (xs:Array Nat)(j p:Nat):Prop where
 le:p<=xs.size
 lo:∀i (h:i<xs.size),i<p->xs[i]<j
 hi:∀i (h:i<xs.size),p<=i->j<=xs[i]
theorem kG {xs:Array Nat}(u:Up xs.toList)(j:Nat):∀(fuel lo hi:Nat),hi-lo<=fuel->lo<=hi->hi<=xs.size->(∀i (h:i<xs.size),i<lo->xs[i]<j)->(∀i (h:i<xs.size),hi<=i->j<=xs[i])->Cut xs j (SetTable.below.go xs j fuel lo hi)
 | 0,lo,hi,hf,hl,hs,h1,h2=>by
  have e:lo=hi:=by omega
  unfold SetTable.below.go
  subst e
  exact⟨hs,h1,h2⟩
 | fuel+1,lo,hi,hf,hl,hs,h1,h2=>by
  unfold SetTable.below.go
  by_cases cc:lo<hi
  ·rw[if_pos cc]
   have hm:(lo+hi) / 2<xs.size:=by omega
   have e:xs.getD ((lo+hi) / 2) j=xs[(lo+hi) / 2]:=by simp[Array.getD,hm]
   dsimp only
   rw[e]
   by_cases hc:xs[(lo+hi) / 2]<j
   ·rw[if_pos hc]
    refine kG u j fuel _ _ (by omega) (by omega) hs (fun i h iB =>?_) h2
    by_cases q:i=(lo+hi) / 2
    ·subst q;exact hc
    ·exact Wq (u.lt hm (by omega)) hc
   ·rw[if_neg hc]
    refine kG u j fuel _ _ (by omega) (by omega) (by omega) h1 (fun i h iB =>?_)
    by_cases q:i=(lo+hi) / 2
    ·subst q;omega
    ·have:=u.lt h (show(lo+hi) / 2<i by omega)
     omega
  ·rw[if_neg cc]
   have e:lo=hi:=by omega
   subst e
   exact⟨hs,h1,h2⟩
theorem e9 {xs:Array Nat}(u:Up xs.toList)(j:Nat):Cut xs j (SetTable.below xs j):=
 kG u j _ _ _ (by omega) (Uq _) (Jd _) (fun i h z=>absurd z (Nat.not_lt_zero _)) fun i h z=>absurd h (by omega)
theorem Cut.next {xs:Array Nat}{p i:Nat}(u:Up xs.toList)(h:i<xs.size)(c:Cut xs (xs[i]+1) p):p=i+1:=by
 have h1:¬p<i+1:=fun z=>by have:=c.hi i h (by omega);omega
 have h2:¬i+1<p:=fun z=>by
  have hs:i+1<xs.size:=by have:=c.le;omega
  have a:=c.lo (i+1) hs z
  have b:=u.lt hs (Nat.lt_succ_self i)
  omega
 omega
def cK (t:SetTable):Prop:=t.dummies = #[]/\Up t.place.toList
theorem rU {a b:Nat}{led:Bool}:cK (SetTable.fresh a b led):=⟨rfl,List.Pairwise.nil⟩
theorem fB (t:SetTable)(n:Nat):cK (t.standIn n):=⟨rfl,by
 show List.Pairwise _ (Array.range n).toList
 rw[Array.toList_range]
 exact List.pairwise_lt_range⟩
theorem has_none (j:Nat):SetTable.has #[] j=false:=by
 unfold SetTable.has
 simp
theorem ug {t:SetTable}(g:cK t)(j:Nat):t.slot j = .empty∨∃i,t.slot j = .live i:=by
 unfold SetTable.slot
 dsimp only
 split
 ·exact .inr ⟨_,rfl⟩
 ·rw[g.1,has_none]
  exact .inl rfl
theorem tT {t:SetTable}(g:cK t){j:Nat}(h:t.slot j = .empty):j∉t.place.toList:=fun hm=>by
 obtain⟨i,hi,e⟩:=U2.mp hm
 have iB:i<t.place.size:=by simpa using hi
 have e':t.place[i]=j:=by simpa using e
 have c:=e9 g.2 j
 have hp:SetTable.below t.place j=i:=by
  have h1:¬i<SetTable.below t.place j:=fun z=>by have:=c.lo i iB z;omega
  have h2:¬SetTable.below t.place j<i:=fun z=>by
   have hs:SetTable.below t.place j<t.place.size:=by omega
   have a:=c.hi _ hs (Jd _)
   have b:=g.2.lt iB z
   omega
  omega
 unfold SetTable.slot at h
 dsimp only at h
 rw[hp,Ub iB,e'] at h
 simp at h
theorem j5 {t:SetTable}(g:cK t){h:Int}{j:Nat}{d:Option Nat}:∀(fuel:Nat) (p:SetTable.Probe),p.dummy=none->SetTable.probe.go t (fun _=>h+1) h fuel p=some (.empty j d)->t.slot j = .empty/\d=none
 | 0,p,hp,e=>by unfold SetTable.probe.go at e;cases e
 | fuel+1,p,hp,e=>by
  unfold SetTable.probe.go at e
  rcases ug g p.j with q|⟨i,q⟩
  ·rw[q] at e
   dsimp only at e
   cases e
   exact⟨q,hp⟩
  ·rw[q] at e
   dsimp only at e
   rw[if_neg (by rw[beq_iff_eq];omega)] at e
   refine j5 g fuel _ ?_ e
   unfold SetTable.advance
   split
   ·exact hp
   ·exact hp
theorem xf {t:SetTable}(g:cK t){j:Nat}(h:t.slot j = .empty):cK (t.put j).1:=by
 have hn:=tT g h
 have c:=e9 g.2 j
 unfold SetTable.put
 refine⟨?_,?_⟩
 ·show(if SetTable.has t.dummies j=true then _ else t.dummies) = #[]
  rw[g.1,has_none,if_neg Jm]
 ·show Up (SetTable.insertAt t.place _ j).toList
  rw[SetTable.toList_insertAt]
  have u:Up t.place.toList:=g.2
  refine Ue.mpr ⟨List.Pairwise.sublist (Wc _ _) u,List.pairwise_cons.mpr ⟨fun x hx =>?_,List.Pairwise.sublist (Wt _ _) u⟩,fun x hx y hy =>?_⟩
  ·obtain⟨i,hi,e⟩:=U2.mp hx
   rw[List.getElem_drop] at e
   have iB:SetTable.below t.place j+i<t.place.size:=by rw[J9] at hi;simp at hi;omega
   have:=c.hi _ iB (U4 _ _)
   have e':t.place[SetTable.below t.place j+i]=x:=by simpa using e
   have jH:j≠x:=fun z=>hn (by rw[z];exact Ww hx)
   omega
  ·have NR:x<j:=by
    obtain⟨i,hi,e⟩:=U2.mp hx
    rw[List.getElem_take] at e
    rw[Jr] at hi
    have iB:i<t.place.size:=by simp at hi;omega
    have:=c.lo i iB (by omega)
    have e':t.place[i]=x:=by simpa using e
    omega
   rcases Um.mp hy with rfl|hy
   ·exact NR
   ·obtain⟨i,hi,e⟩:=U2.mp hy
    rw[List.getElem_drop] at e
    have iB:SetTable.below t.place j+i<t.place.size:=by rw[J9] at hi;simp at hi;omega
    have:=c.hi _ iB (U4 _ _)
    have e':t.place[SetTable.below t.place j+i]=y:=by simpa using e
    omega
theorem zB {t:SetTable}(g:cK t)(n:Nat):cK (t.orStandIn n):=by
 unfold SetTable.orStandIn
 split
 ·exact g
 ·exact fB t n
theorem wQ {t:SetTable}(g:cK t)(es:Array (Int×Value))(h:Int)(x:Value):cK (layNew t es h x).2.1/\(layNew t es h x).2.1.led=t.led:=by
 unfold layNew
 split
 ·rename_i slot wasDummy hs
  dsimp only
  have tI:t.slot slot = .empty:=by
   unfold SetTable.freeSlot at hs
   split at hs
   ·rename_i j d hp
    unfold SetTable.probe at hp
    obtain⟨h1,h2⟩:=j5 g _ _ rfl hp
    subst h2
    cases hs
    exact h1
   ·cases hs
  refine⟨zB (xf g tI) _,?_⟩
  unfold SetTable.orStandIn
  split<;>rfl
 ·exact⟨fB t _,rfl⟩
theorem kr {β:Type}(f:Nat->Option β):∀l:List Nat,List.Sublist ((l.filterMap fun j=>(f j).map (j, ·)).map (·.1)) l
 | []=>List.Sublist.refl _
 | j::l=>by
  rw[List.filterMap_cons]
  cases f j with
  | none=>exact List.Sublist.cons _ (kr f l)
  | some b=>exact List.Sublist.cons_cons _ (kr f l)
theorem tR {mask finger moves:Nat}{led plain:Bool}{hs:Array Int}{t:SetTable}{order:Array Nat}(e:SetTable.laid mask finger moves led plain hs=some (t,order)):cK t/\t.led=led:=by
 unfold SetTable.laid at e
 cases q:SetTable.layClean mask hs with
 | none=>rw[q] at e;cases e
 | some owner=>
  rw[q] at e
  cases e
  refine⟨⟨rfl,?_⟩,rfl⟩
  exact List.Pairwise.sublist (kr _ _) List.pairwise_lt_range
theorem rC {t:SetTable}(es:Array (Int×Value))(n:Nat):cK (relayAll t es n).2.1/\(relayAll t es n).2.1.led=t.led:=by
 unfold relayAll
 split
 ·rename_i t' order hr
  dsimp only
  split
  ·unfold SetTable.relaid at hr
   exact tR hr
  ·exact⟨fB t _,rfl⟩
 ·exact⟨fB t _,rfl⟩
section
variable {prog:Program}{w:World}{K:Type}[DecidableEq K]{knd:PySem.KeyKind prog w K}{A:Around}{E:Value->Shared->Prop}{s:Shared}{a:Addr}
def iH (w:World)(h:Heap)(a:Addr):Prop:=∃o es ep t,h.get? a=some o/\o.data = .set es ep t/\cK t/\(w.params.followText "set-order" = false->t.led=true)
theorem iH.at' {h h':Heap}(x:iH w h a)(k:∀o,h.get? a=some o->h'.get? a=some o):iH w h' a:=by
 obtain⟨o,es,ep,t,e,r⟩:=x
 exact⟨o,es,ep,t,k _ e,r⟩
def bO (knd:PySem.KeyKind prog w K)(h:Heap)(a:Addr)(D:List K):Prop:=i5 knd h a D/\iH w h a
theorem ox {o:Obj}{es:Array (Int×Value)}{ep:Nat}{t:SetTable}(ho:s.heap.get? a=some o)(hd:o.data = .set es ep t){es':Array (Int×Value)}{t':SetTable}(g:cK t')(l:w.params.followText "set-order" = false->t'.led=true):
  (s.heap.update a (Obj.putSet es' t')).get? a=some { o with data := .set es' (ep+1) t' } /\ iH w (s.heap.update a (Obj.putSet es' t')) a:=by
 have e:=Uu (Obj.putSet es' t') ho (by rw[putSet_of es' t' hd];rfl)
 rw[putSet_of es' t' hd] at e
 exact⟨e,_,_,_,_,e,rfl,g,l⟩
theorem rA {D:List K}{k:K}{x:Value}{Q:Bool->Shared->Prop}(hk:knd.is k x=true)(hx:x.scannable=true)(S:bO knd s.heap a D)(room:D.length+1<scanBound)
  (fin:∀b h',Yr a s.heap h'->bO knd h' a (oneMore D k)->Q b { s with heap:=h' }):wpAny (model prog w) A (setAddHashed a x (knd.hash k)) Q E s:=by
 obtain⟨HK,o',es',ep',t',rB,hd',gt',ld'⟩:=S
 obtain⟨o,es,ep,t,ho,ex,hd,el,mem,bnd,fit,len⟩:=id HK
 obtain⟨gt,ld⟩:cK t/\(w.params.followText "set-order" = false->t.led=true):=by
  rw[ho] at rB;cases rB
  rw[hd] at hd';cases hd'
  exact⟨gt',ld'⟩
 have Ow:=byScan_of hx bnd el
 unfold setAddHashed setAddHashedIn setAddByScan
 refine wpAny_holding (wpAny_bind (wpAny_setState_of ho hd fit ?_))
 dsimp only
 rw[Ow,if_pos rfl]
 refine wpAny_bind (wpAny_bind (wpAny_rule (wpAny_bind (wpAny_setScan_of hk ho hd fit el ?_))))
 have Fo:∀(b:Bool) {s1:Shared} {Q':Unit->Shared->Prop},Q' () s1->wpAny (model prog w) A (match b with|true=>rule "set.scan.the-table-gave-way" | false=>pure ()) Q' E s1:=fun b s1 Q' q=>by
  cases b
  ·exact wpAny_pure q
  ·exact wpAny_rule q
 cases hr:es.toList.findIdx? (fun e=>knd.is k e.2) with
 | some j=>
  obtain⟨hj,hp,_⟩:=List.findIdx?_eq_some_iff_getElem.mp hr
  have fM:k∈D:=of_decide_eq_true ((mem k).mpr ⟨_,Jt hj,hp⟩)
  refine wpAny_pure (wpAny_pure ?_)
  have q:=fin false s.heap (Yr.refl a s.heap) (by
   unfold oneMore
   rw[if_pos fM]
   exact⟨HK,_,_,_,_,ho,hd,gt,ld⟩)
  exact q
 | none=>
  have lK:k∉D:=fun z=>by
   obtain⟨e,he,hp⟩:=(mem k).mp (decide_eq_true z)
   have:=List.findIdx?_eq_none_iff.mp hr e he
   rw[hp] at this;cases this
  have more:∀k',decide (k'∈oneMore D k)=(decide (k'∈D)||decide (k'=k)):=fun k'=>by
   unfold oneMore
   rw[if_neg lK]
   simp[Bool.decide_or]
  obtain⟨g1,l1⟩:=wQ gt es (knd.hash k) x
  have pm:=layNew_perm t es (knd.hash k) x
  have ft:=layNew_fits t es (knd.hash k) x
  dsimp only
  generalize layNew t es (knd.hash k) x=L at g1 l1 pm ft ⊢
  obtain⟨es1,t1,dummy,gv⟩:=L
  dsimp only at g1 l1 pm ft ⊢
  rw[Yl] at pm
  have MY:ElemsOf knd es1.toList:=(el.push hk hx).perm pm
  have FX:∀k',decide (k'∈oneMore D k)=true ↔ ∃e∈es1.toList,knd.is k' e.2=true:=fun k'=>by
   rw[more];exact mem_push_iff hk mem pm k'
  have Nd:es1.size=(oneMore D k).length:=by
   unfold oneMore
   rw[if_neg lK,<-Jw,pm.length_eq,Jc,Jc,Jw,len];rfl
  have Pf:(oneMore D k).length=D.length+1:=by
   unfold oneMore
   rw[if_neg lK,Jc];rfl
  have EI:es1.size<scanBound:=by omega
  have LS:w.params.followText "set-order" = false->t1.led=true:=fun z=>l1.trans (ld z)
  have tail:∀t2:SetTable,cK t2->(w.params.followText "set-order" = false->t2.led=true)->t2.fits es1.size=true->∀c:Bool,
    wpAny (model prog w) A (do
     storeSet a es1 t2
     if c=true then do
       (match (relayAll t2 es1 (SetTable.grown es1.size)).2.2 with|true=>rule "set.scan.the-table-gave-way" | false=>pure ())
       storeSet a (relayAll t2 es1 (SetTable.grown es1.size)).1 (relayAll t2 es1 (SetTable.grown es1.size)).2.1
       pure (some true)
      else pure (some true)) (fun r s'=>r=some true/\∃h',s'={ s with heap:=h' } /\ Yr a s.heap h'/\bO knd h' a (oneMore D k)) E s:=by
   intro t2 g2 ld2 ft2 c
   refine wpAny_bind (wpAny_storeSet_of ho hd ?_ (fits_of_scanBound EI))
   obtain⟨e1,gs1⟩:=ox (es':=es1) ho hd g2 ld2
   have Di:=Yr.update s.heap a (Obj.putSet es1 t2)
   cases c with
   | false=>
    rw[if_neg Jm]
    exact wpAny_pure ⟨rfl,_,rfl,Di,⟨_,_,_,_,e1,ex,rfl,MY,FX,EI,ft2,Nd⟩,gs1⟩
   | true=>
    rw[if_pos rfl]
    have Dn:=relayAll_perm t2 es1 (SetTable.grown es1.size)
    have JX:=relayAll_fits t2 es1 (SetTable.grown es1.size)
    obtain⟨g3,l3⟩:=rC (t:=t2) es1 (SetTable.grown es1.size)
    generalize relayAll t2 es1 (SetTable.grown es1.size)=L2 at Dn JX g3 l3 ⊢
    obtain⟨es2,t3,gv2⟩:=L2
    dsimp only at Dn JX g3 l3 ⊢
    have L1:es2.size=es1.size:=by rw[<-Jw,Dn.length_eq,Jw]
    refine wpAny_bind (Fo _ ?_)
    refine wpAny_bind (wpAny_storeSet_of e1 rfl ?_ (fits_of_scanBound (by omega)))
    obtain⟨e2,gs2⟩:=ox (s:={ s with heap:=s.heap.update a (Obj.putSet es1 t2) }) (es':=es2) e1 rfl g3 (fun z=>l3.trans (ld2 z))
    refine wpAny_pure ⟨rfl,_,rfl,Di.trans (Yr.update _ a _),⟨_,_,_,_,e2,ex,rfl,MY.perm Dn,fun k'=>(FX k').trans ⟨fun hz_=>ae.el hz_ _ fun e he q=>⟨e,Dn.mem_iff.mpr he,q⟩,fun hz_=>ae.el hz_ _ fun e he q=>⟨e,Dn.mem_iff.mp he,q⟩⟩,by omega,JX,L1.trans Nd⟩,gs2⟩
  have out:∀(r:Option Bool) s',(r=some true/\∃h',s'={ s with heap:=h' } /\ Yr a s.heap h'/\bO knd h' a (oneMore D k))->wpAny (model prog w) A (match r with|some added=>pure added|none=>setAddHashedIn a x (knd.hash k) 99999) Q E s':=by
   rintro r s' ⟨rfl,h',rfl,sb,sk⟩
   exact wpAny_pure (fin true h' sb sk)
  refine wpAny_bind (Fo _ ?_)
  cases mH:t1.plain with
  | false=>
   rw[if_neg Jm]
   refine wpAny_bind (wpAny_pure ?_)
   rw[if_pos rfl]
   exact wpAny_mono (tail t1 g1 LS ft _) (fun r s' q=>out r s' q) fun _ _ z=>z
  | true=>
   rw[if_pos rfl]
   refine wpAny_bind ?_
   rw[hashByValue_scannable 8 hx]
   refine wpAny_pure ?_
   cases plainKind x with
   | true=>
    rw[if_pos rfl]
    exact wpAny_mono (tail t1 g1 LS ft _) (fun r s' q=>out r s' q) fun _ _ z=>z
   | false=>
    rw[if_neg Jm]
    exact wpAny_mono (tail { t1 with plain:=false } g1 LS (SetTable.fits_plain_off ft) _) (fun r s' q=>out r s' q) fun _ _ z=>z
theorem bO.at' {D:List K}{h h':Heap}(x:bO knd h a D)(k:∀o,h.get? a=some o->h'.get? a=some o):bO knd h' a D:=⟨x.1.at' k,x.2.at' k⟩
end
structure BA (P:Program)(w:World)(K:Type)[DecidableEq K] where
 knd:PySem.KeyKind P w K
 v:K->V
 ok:∀k u,RelV (v k) u->knd.is k u=true/\u.scannable=true
noncomputable def zG (P:Program)(w:World):BA P w Str:=⟨strKind P w,V.str,fun k u r=>by obtain⟨t,rfl⟩:=r;exact⟨strKind_is _ _ _ _,rfl⟩⟩
noncomputable def vZ {P:Program}{w:World}{K:Type}[DecidableEq K](kv:BA P w K)(a:Addr)(D:List K):HO := .ext fun h=>bO kv.knd h a D
theorem yr {P:Program}{w:World}{K:Type}[DecidableEq K]{kv:BA P w K}{a:Addr}{D:List K}{H:Hp}{h:Heap}(x:bO kv.knd h a D):bo P w H h a (vZ kv a D):=by
 have x':=x.1
 obtain⟨o,es,ep,t,e,rest⟩:=x'
 exact⟨x,⟨o,e⟩,fun h1 h2 y k=>bO.at' y k⟩
theorem qu {prog:Program}{w:World}{K:Type}[DecidableEq K]{knd:PySem.KeyKind prog w K}{h:Heap}{a:Addr}{led:Bool}(e:h.get? a=some (bZ led)):i5 knd h a []:=by
 have z:=(setObjOf_fresh (knd:=knd) led).setOf e (by decide)
 have q:(fun k:K=>decide (k∈([]:List K)))=fun _=>false:=by funext k;simp
 show Heap.SetOf knd _ _ (fun k=>decide (k∈([]:List K))) 0
 rw[q]
 exact z
theorem qt {prog:Program}{w:World}{K:Type}[DecidableEq K]{knd:PySem.KeyKind prog w K}{h:Heap}{a:Addr}{led:Bool}(l:w.params.followText "set-order" = false->led=true)(e:h.get? a=some (bZ led)):bO knd h a []:=⟨qu e,_,_,_,_,e,rfl,rU,l⟩
section
variable {X:Cx}
theorem xQ:ur X "list.reverse" (fun x vs H Q=>∃l xs,x = .ref l/\vs=[]/\H l=some (.lst xs)/\∀H',lj H l (.lst xs.reverse) H'->Q .non H'):=by
 intro pins s σ H x vs v us Q I rx rv h
 obtain⟨l,xs,rfl,rfl,hH,q⟩:=h
 cases rx
 cases rv
 obtain⟨z,av,n,r,hl,e⟩:=I.jN hH
 refine call_meets F.slot_list_reverse ⟨_,e,rfl⟩ F.entry_list_reverse (F.args_list_reverse_1 _) (AutoListH.list_reverse_list_0 l av.toArray n (by rw[Jl];omega)) ⟨e,?_⟩
 exact⟨.non,_,I.qx (its':=av.reverse) hH e (by simp) r.rev (by rw[List.length_reverse];omega),rfl,q _ ⟨rfl⟩⟩
theorem o7 (l:Addr)(items:Array Value)(n:Nat)(hsz:items.size<=sizeLine):
  Meets (Builtin.«list.clear» ⟨[.ref l],[]⟩) (fun _ R s=>s.heap.get? l=some { cls := .type "list",dict:=none,data := .seq items n,slots := #[] } /\ R (.ok (.ret Value.none)) { s with heap:=s.heap.update l (Obj.mapSeq fun _ =>#[]),toks:=s.toks }):=
 .of_wp fun prog w A R s h=>by
  obtain⟨hp,g,d,tk,os⟩:=s
  obtain⟨hl,h⟩:=h
  unfold Builtin.«list.clear»
  refine wpAny_bind (wpAny_pure ?_)
  unfold Builtin.List.listItems
  refine wpAny_bind (wpAny_bind (wpAny_seqItems hl rfl (wpAny_pure ?_)))
  unfold Builtin.List.listUpdate
  refine wpAny_bind (wpAny_updateSeq hl rfl (hz:=hsz) (_hz':=Uq _) ?_)
  refine wpAny_bind (wpAny_letGo ?_)
  exact wpAny_pure ⟨_,rfl,h⟩
theorem C2:ur X "list.clear" (fun x vs H Q=>∃l xs,x = .ref l/\vs=[]/\H l=some (.lst xs)/\∀H',lj H l (.lst []) H'->Q .non H'):=by
 intro pins s σ H x vs v us Q I rx rv h
 obtain⟨l,xs,rfl,rfl,hH,q⟩:=h
 cases rx
 cases rv
 obtain⟨z,av,n,r,hl,e⟩:=I.jN hH
 refine call_meets F.slot_list_clear ⟨_,e,rfl⟩ F.entry_list_clear (F.args_list_clear_1 _) (o7 l av.toArray n (by rw[Jl];omega)) ⟨e,?_⟩
 exact⟨.non,_,I.qx (its':=[]) hH e rfl .nil (Uq _),rfl,q _ ⟨rfl⟩⟩
end
theorem mR:∀{ss:List Str} {us:List Value},StrsAre us ss->Vals (ss.map V.str) us:=by
 intro ss us h
 induction h with
 | nil=>exact .nil
 | cons _ _ _ ih=>exact .cons ⟨_,rfl⟩ ih
section
variable {X:Cx}{H Hj:Hp}{s sj:Shared}{pins:List (Addr×Obj)}{σ:St}
structure Run (X:Cx)(H:Hp)(s:Shared)(Hj:Hp)(sj:Shared):Prop where
 un:Un (i8 X.stack) [] H Hj s.heap sj.heap
 aZ:eK X.prog X.w Hj sj.heap
 os:sj.os=s.os
 bare:AllBare sj.gens
theorem Run.inv (r:Run X H s Hj sj)(I:Inv X pins σ H s):Inv X pins σ Hj sj:=I.pF (ch:=[]) r.os r.un r.aZ r.bare fun _ z=>by cases z
theorem Run.start (I:Inv X pins σ H s):Run X H s H s:=⟨Un.refl,I.aZ,rfl,I.bare⟩
theorem Run.kept {h':Heap}(r:Run X H s Hj sj)(k:∀b u,sj.heap.get? b=some u->h'.get? b=some u):Run X H s Hj { sj with heap:=h' }:=⟨r.un.trans (Un.kept k),r.aZ.kept k,r.os,r.bare⟩
theorem Run.alter {h':Heap}{b:Addr}(r:Run X H s Hj sj)(hb:s.heap.get? b=none)(hn:Hj b=none)(k:∀c u,c≠b->sj.heap.get? c=some u->h'.get? c=some u):Run X H s Hj { sj with heap:=h' }:=by
 have ne:∀{c:Addr} {o:Obj},s.heap.get? c=some o->c≠b:=fun e z=>by rw[z,hb] at e;cases e
 refine⟨⟨fun c o q n h1 h2=>k c o (ne q) (r.un.keep c o q n h1 h2),fun c o q n h1 h2 =>?_,r.un.free,fun c o q h1 =>?_,r.un.fU,r.un.eV,r.un.gF⟩,fun a o e=>(r.aZ a o e).fP (fun c u hc q=>k c u ?_ q) (fun _ q=>q) fun _ _ q=>q,r.os,r.bare⟩
 ·obtain⟨sl,e⟩:=r.un.slot c o q n h1 h2
  exact⟨sl,k c _ (ne q) e⟩
 ·obtain⟨o',e⟩:=r.un.there c o q h1
  exact⟨o',k c _ (ne q) e⟩
 ·rintro rfl
  rcases hc with rfl|hc
  ·rw[hn] at e;cases e
  ·rw[hn] at hc;cases hc
theorem Run.told {b:Addr}{o:HO}(r:Run X H s Hj sj)(hb:s.heap.get? b=none)(hn:Hj b=none)(new:bo X.prog X.w (upd Hj b o) sj.heap b o):Run X H s (upd Hj b o) sj:=by
 have ne:∀{c:Addr} {o:Obj},s.heap.get? c=some o->c≠b:=fun e z=>by rw[z,hb] at e;cases e
 have hH:∀{c:Addr} {q:HO},Hj c=some q->c≠b:=fun e z=>by rw[z,hn] at e;cases e
 refine⟨⟨r.un.keep,r.un.slot,fun c o q n h1=>by rw[aq (ne q)];exact r.un.free c o q n h1,r.un.there,fun c xs q =>?_,fun c o u q =>?_,fun c ps q =>?_⟩,fun a u e =>?_,r.os,r.bare⟩
 ·have:=r.un.fU c xs q;rw[aq (hH this)];exact this
 ·have:=r.un.eV c o u q;rw[aq (hH this)];exact this
 ·obtain⟨more,e⟩:=r.un.gF c ps q
  exact⟨more,by rw[aq (hH e)];exact e⟩
 ·by_cases z:a=b
  ·subst z;rw[aJ] at e;cases e;exact new
  ·rw[aq z] at e
   exact(r.aZ a u e).fP (fun _ _ _ q=>q) (fun c q=>by rw[aq (hH q)];exact q) fun c xs q=>by rw[aq (hH q)];exact q
theorem Run.called {Q:VK}{u:Value}{s':Shared}(r:Run X H s Hj sj)(c:CE X.stack X.prog X.w Hj sj Q u s'):∃v H',Run X H s H' s'/\RelV v u/\Q v H'/\Un (i8 X.stack) [] Hj H' sj.heap s'.heap:=by
 obtain⟨v,H',os,bare,un,aZ,rv,q⟩:=c
 exact⟨v,H',⟨r.un.trans un,aZ,os.trans r.os,bare⟩,rv,q,un⟩
end
def BG (X:Cx)(f:Value)(r:V->Hp->VK->Prop):Prop:=
 ∀ ⦃pins:List (Addr×Obj)⦄ (s:Shared) (σ:St) (H:Hp) (x:V) (u:Value) (Q:VK),Inv X pins σ H s->RelV x u->r x H Q ->
  wpAny (model X.prog X.w) X.A.in1.in1 (call f [u]) (CE X.stack X.prog X.w H s Q) (fun _ _=>False) s
theorem BW {X:Cx}{k:Nat}{f:Addr}{fd:FuncData}{ps:List Str}{sp:Sp}(F:bM X.prog X.w X.K X.mg X.base gU k f fd ps sp)(hr:dH (k+2) X.A)(hb:Binds X.K fd ps []):BG X (.ref f) fun x H Q=>sp [x] H Q E0:=by
 intro pins s σ H x u Q I rx h
 have rv:Vals [x] [u] := .cons rx .nil
 have hl:([u]++([]:List Value)).length=ps.length:=F.len _ _ _ _ h
 have b:=hb s [u] I.lV hl
 rw[Uh] at b
 refine wpAny_call (codeAny_mono (F.run X.A.in1.in1 X.stack s H ⟨[u],[]⟩ [u] [x] Q E0 hr.in1.in1 I.Fe.in1.in1 b rv h) fun r s' hq =>?_)
 cases r with
 | error e=>exact hq.elim
 | ok fl=>cases fl with
  | ret u=>exact hq
  | next=>exact False.elim hq
  | brk=>exact False.elim hq
  | cont=>exact False.elim hq
def gZ (a b:Str):Prop:=a.length<b.length∨(a.length=b.length/\a.cps.toList<b.cps.toList)
instance (a b:Str):Decidable (gZ a b):=by unfold gZ;infer_instance
theorem zh {x y:Str}(h:x.cps.toList=y.cps.toList):x=y:=by
 cases x;cases y;congr 1;exact Array.toList_inj.mp h
theorem jB (a:Str):¬gZ a a:=fun h=>by
 rcases h with h|⟨_,h⟩
 ·omega
 ·exact List.lt_irrefl _ h
theorem rT {a b c:Str}(h1:gZ a b)(h2:gZ b c):gZ a c:=by
 rcases h1 with h1|⟨e1,h1⟩<;>rcases h2 with h2|⟨e2,h2⟩
 ·exact .inl (by omega)
 ·exact .inl (by omega)
 ·exact .inl (by omega)
 ·exact .inr ⟨by omega,List.lt_trans h1 h2⟩
theorem yT {a b:Str}(h:a≠b):gZ a b∨gZ b a:=by
 by_cases h1:a.length<b.length
 ·exact .inl (.inl h1)
 by_cases h2:b.length<a.length
 ·exact .inr (.inl h2)
 by_cases h3:a.cps.toList<b.cps.toList
 ·exact .inl (.inr ⟨by omega,h3⟩)
 ·refine .inr (.inr ⟨by omega,?_⟩)
  rcases List.le_iff_lt_or_eq.mp (List.not_lt.mp h3) with z|z
  ·exact z
  ·exact absurd (zh z).symm h
noncomputable def rk (L:List Str)(t:Str):Nat:=L.countP fun u=>decide (gZ u t)
theorem my {α:Type}{p q: α->Bool}:∀{L:List α} {t: α},(∀v∈L,p v=true->q v=true)->t∈L->q t=true->p t=false->L.countP p<L.countP q
 | [],_,_,m,_,_=>by cases m
 | v::L,t,h,m,h1,h2=>by
  have hle:L.countP p<=L.countP q:=List.countP_mono_left fun v hv=>h v (Jp _ hv)
  rw[List.countP_cons,List.countP_cons]
  rcases Um.mp m with rfl|m
  ·rw[h1,h2];simp;omega
  ·have:=my (fun v hv=>h v (Jp _ hv)) m h1 h2
   by_cases hp:p v=true
   ·rw[hp,h v Jn hp];simp;omega
   ·rw[if_neg hp];omega
theorem Ar {L:List Str}{t u:Str}(ht:t∈L)(h:gZ t u):rk L t<rk L u:=
 my (fun v _ hv=>decide_eq_true (rT (of_decide_eq_true hv) h)) ht (decide_eq_true h) (decide_eq_false (jB t))
theorem wy {L:List Str}{t u:Str}(ht:t∈L)(hu:u∈L):gZ t u↔rk L t<rk L u:=by
 refine⟨Ar ht,fun h =>?_⟩
 by_cases e:t=u
 ·subst e;omega
 rcases yT e with z|z
 ·exact z
 ·have:=Ar hu z;omega
noncomputable def i7 (H:Hp)(v:Value):Str:=match v with
 | .ref q=>match H q with
  | some (.tup [_,.str t])=>t
  | _=>⟨#[]⟩
 | _=>⟨#[]⟩
noncomputable def zX (H:Hp)(L:List Str)(p:Keyed):Int:=rk L (i7 H p.1)
def eC (H:Hp)(t:Str)(v:Value):Prop:=∃q,v = .ref q/\H q=some (.tup [.int t.length,.str t])
theorem eC.txt {H:Hp}{t:Str}{v:Value}(h:eC H t v):i7 H v=t:=by
 obtain⟨q,rfl,e⟩:=h
 unfold i7;simp only[e]
theorem eC.obj {P:Program}{w:World}{H:Hp}{t:Str}{v:Value}{h:Heap}(k:eC H t v)(ok:eK P w H h):∃q o n t1 t2,v = .ref q/\h.get? q=some o/\o.cls = .type "tuple" /\ o.data = .seq #[.int t.length t1,.str t t2] n:=by
 obtain⟨q,rfl,e⟩:=k
 obtain⟨_,av,r,o,e1,c,n,d⟩:=ok q _ e
 obtain⟨w1,w2,rfl,⟨t1,rfl⟩,⟨t2,rfl⟩⟩:=vals2 r
 exact⟨q,o,n,t1,t2,rfl,e1,c,d⟩
noncomputable abbrev l4:SortKind:=tuples' (Value.type "int" != Value.type "tuple")
section
variable {prog:Program}{w:World}{A:Around}{E:Value->Shared->Prop}{s:Shared}
theorem Bs {H:Hp}{L:List Str}{a₀:Array Keyed}(ok:eK prog w H s.heap)(h0:∀x∈a₀.toList,∃t,t∈L/\eC H t x.1):iC prog w A E s a₀ (zX H L) l4:=fun st x y Q hx hy hk q=>by
 refine ae.el (h0 x hx) _ ?_
 rintro t mt kt
 refine ae.el (h0 y hy) _ ?_
 rintro u mu ku
 have q':Q (some (decide (gZ t u))) st:=by
  have e:decide (zX H L x<zX H L y)=decide (gZ t u):=decide_eq_decide.mpr (by unfold zX;rw[kt.txt,ku.txt,Int.ofNat_lt];exact(wy mt mu).symm)
  rw[e] at q;exact q
 clear q
 refine ae.el (kt.obj ok) _ ?_
 rintro q1 o1 n1 t1 t2 e1 g1 _ d1
 refine ae.el (ku.obj ok) _ ?_
 rintro q2 o2 n2 u1 u2 e2 g2 _ d2
 rw[lt'_eq]
 refine wpS_bind (wpS_get ?_)
 rw[hk,e1,e2]
 refine wpS_bind (wpS_lift (wpAny_attempt (wpAny_mono (kat_lt g1 d1 g2 d2 (Q:=fun b s'=>b=decide (gZ t u)/\s'=s) ?_) (fun b s' hb =>?_) (fun _ _ z=>False.elim z))))
 ·show KatLex _ _ _ _ _ _ [(_,_),(_,_)] 0 s
  refine kat_cons (wpAny_eqBool_int ?_)
  by_cases c:t.length=u.length
  ·rw[show((t.length:Int)==(u.length:Int))=true by simp -iota [c]]
   refine kat_yes (kat_cons (wpAny_eqBool_str ?_))
   by_cases d:t=u
   ·rw[decide_eq_true d]
    refine kat_yes (kat_nil ⟨?_,rfl⟩)
    subst d
    exact(decide_eq_false (jB t)).symm
   ·rw[decide_eq_false d]
    refine kat_no (kat_one _ _ (lt_str ?_))
    refine⟨?_,rfl⟩
    refine decide_eq_decide.mpr ⟨fun z =>.inr ⟨c,z⟩,fun z =>?_⟩
    rcases z with z|z
    ·omega
    ·exact z.2
  ·rw[show((t.length:Int)==(u.length:Int))=false by simp;omega]
   refine kat_no (oneLt_int ⟨?_,rfl⟩)
   refine decide_eq_decide.mpr ⟨fun z =>.inl (by omega),fun z =>?_⟩
   rcases z with z|z
   ·omega
   ·exact absurd z.1 c
 ·obtain⟨rfl,rfl⟩:=hb
  exact⟨rfl,wpS_pure q'⟩
end
section
variable {X:Cx}{H:Hp}{s0:Shared}{pins:List (Addr×Obj)}{σ:St}{D kS:Addr}{ts:List Str}{vs:List Value}
structure Kj (X:Cx)(H:Hp)(s0:Shared)(D kS:Addr)(e1:Nat)(ts:List Str)(Hj:Hp)(ks:List Value)(sj:Shared):Prop where
 run:Run X H s0 Hj sj
 same:aw H Hj
 dn:Hj D=none
 kn:Hj kS=none
 d0:s0.heap.get? D=none
 k0:s0.heap.get? kS=none
 ne:kS≠D
 dat:sj.heap.get? D=some (seqObj "list" #[] e1)
 kat:∃e,sj.heap.get? kS=some (seqObj "list" ks.toArray e)
 keys:Paired (eC Hj) ts ks
theorem qI {α β:Type}{R: α -> β->Prop}{a: α}{b: β}:∀{l₁:List α} {l₂:List β},Paired R l₁ l₂->R a b->Paired R (l₁++[a]) (l₂++[b]):=by
 intro l₁ l₂ t h
 induction t with
 | nil=>exact .cons h .nil
 | cons r _ ih=>exact .cons r ih
theorem AY (I:Inv X pins σ H s0){b:Addr}(h:s0.heap.get? b=none):b∉i8 X.stack:=fun hb=>by
 refine ae.el (I.stack.mem hb) _ ?_
 rintro _ o e _
 rw[h] at e;cases e
theorem eC.new {H H':Hp}{t:Str}{v:Value}{q:Addr}{o:HO}(k:eC H t v)(n:dz H q o H'):eC H' t v:=by
 obtain⟨a,rfl,e⟩:=k
 exact⟨a,rfl,n.same _ _ e⟩
theorem Kj.more {e1:Nat}{Hj:Hp}{ks:List Value}{sj s':Shared}{t:Str}{u:Value}(I:Inv X pins σ H s0)(k:Kj X H s0 D kS e1 ts Hj ks sj)(hz:ks.length<sizeLine)
  (c:CE X.stack X.prog X.w Hj sj (fun v H'=>∃q,v = .ref q/\dz Hj q (.tup [.int t.length,.str t]) H') u s') :
  ∃e,s'.heap.get? kS=some (seqObj "list" ks.toArray e)/\∃Hi,Kj X H s0 D kS e1 (ts++[t]) Hi (ks++[u]) { s' with heap:=s'.heap.update kS (Obj.mapSeq (·.push u)) }:=by
 obtain⟨v,H',r',rv,⟨q,rfl,n⟩,un⟩:=k.run.called c
 cases rv
 obtain⟨e,hk⟩:=k.kat
 have nd:=un.keep D _ k.dat k.dn (AY I k.d0) (by simp)
 have nk:=un.keep kS _ hk k.kn (AY I k.k0) (by simp)
 have fd:=un.free D _ k.dat k.dn (by simp)
 have fk:=un.free kS _ hk k.kn (by simp)
 refine⟨e,nk,H',?_⟩
 refine⟨r'.alter k.k0 fk fun c u hc q=>by rw[Y4 _ _ _ _ hc];exact q,fun a o z=>n.same _ _ (k.same a o z),fd,fk,k.d0,k.k0,k.ne,?_,?_,?_⟩
 ·show(s'.heap.update _ _).get? D=_
  rw[Y4 _ _ _ _ k.ne.symm];exact nd
 ·have ea:ks.toArray.push (Value.ref q)=List.toArray (ks++[.ref q]):=by simp
  exact⟨_,by rw[<-ea];exact get?_update_seq nk (·.push (Value.ref q))⟩
 ·exact qI (Paired.imp' (fun a b z=>eC.new z n) k.keys) ⟨q,rfl,n.at⟩
theorem j8 {Hn:Hp}:∀{ts:List Str} {ks vs:List Value},Paired (eC Hn) ts ks->Vals (ts.map V.str) vs->(ks.zip vs).map (fun p=>i7 Hn p.1)=ts/\∀p∈ks.zip vs,∃t,t∈ts/\eC Hn t p.1/\RelV (.str t) p.2
 | [],_,_,.nil,.nil=>⟨rfl,fun _ h=>by cases h⟩
 | t::ts,_,_,.cons r a,.cons q b=>by
  obtain⟨e,m⟩:=j8 a b
  refine⟨?_,fun p hp =>?_⟩
  ·rw[List.zip_cons_cons,Uc,e]
   show i7 Hn _::ts=_
   rw[r.txt]
  ·rw[List.zip_cons_cons] at hp
   rcases Um.mp hp with rfl|hp
   ·exact⟨t,Jn,r,q⟩
   ·obtain⟨t,h1,h2⟩:=m p hp
    exact⟨t,Jp _ h1,h2⟩
theorem oB {Hn:Hp}:∀{l:List Keyed},(∀p∈l,RelV (.str (i7 Hn p.1)) p.2)->Vals ((l.map fun p=>i7 Hn p.1).map V.str) (l.map (·.2))
 | [],_ =>.nil
 | p::l,h =>.cons (h p Jn) (oB fun q hq=>h q (Jp _ hq))
def B5 (X:Cx)(H:Hp)(s0:Shared)(D:Addr)(ts:List Str)(P:Shared->Prop):Prop:=
 ∀(us:List Str) (out:Array Value) (Hn:Hp) (sn:Shared) (e:Nat),Run X H s0 Hn sn->aw H Hn->Hn D=none->sn.heap.get? D=some (seqObj "list" out e)->Vals (us.map V.str) out.toList->us.Perm ts->us.Pairwise (fun a b =>¬gZ b a)->P sn
theorem kX {A:Around}{E:Value->Shared->Prop}{e1:Nat}{Hn:Hp}{ks:List Value}{sn:Shared}{P:PySem.Fin->Shared->Prop}{st:SortSt}(k:Kj X H s0 D kS e1 ts Hn ks sn)(rv:Vals (ts.map V.str) vs)(hz:ts.length<=sizeLine)
  (hp:(arrOf st).Perm (ks.toArray.zip vs.toArray)) (hf:failedOf st=none) (hs:Sg (zX Hn ts) (arrOf st) 0 (arrOf st).size) (h:B5 X H s0 D ts fun sn=>P (.done (.ret .none)) sn) :
  wpAny (model X.prog X.w) A (ksk_tail D false e1 (.ref kS) st) P E sn:=by
 obtain⟨e,hk⟩:=k.kat
 have lk:ks.length=ts.length:=k.keys.length.symm
 have mH:(arrOf st).toList.Perm (ks.zip vs):=by
  have:=Wk.mp hp
  rw[ksk_zip] at this;exact this
 obtain⟨z1,z2⟩:=j8 k.keys rv
 have z3:∀p∈(arrOf st).toList,∃t,t∈ts/\eC Hn t p.1/\RelV (.str t) p.2:=fun p h=>z2 p (mH.subset h)
 have up:((arrOf st).toList.map fun p=>i7 Hn p.1).Perm ts:=by rw[<-z1];exact mH.map _
 have ul:=up.length_eq
 rw[Ja,Jw] at ul
 have d1:(sn.heap.update kS (Obj.mapSeq fun _=>(#[]:Array Value))).get? D=some (seqObj "list" #[] e1):=by rw[Y4 _ _ _ _ k.ne.symm];exact k.dat
 unfold ksk_tail
 try dsimp only
 refine wpAny_bind (listUpdate_at hk rfl ?_ (by rw[Jl];omega) (Uq _))
 refine wpAny_bind (wpAny_letGo ?_)
 refine wpAny_bind (seqEpoch_at d1 rfl ?_)
 simp -iota only [Ua,if_false]
 refine wpAny_bind (listUpdate_at d1 rfl ?_ (Uq _) (by rw[Array.size_map];omega))
 rw[hf]
 simp -iota only [bne_self_eq_false,Ua,if_false]
 obtain⟨e2,g2⟩:∃e2,((sn.heap.update kS (Obj.mapSeq fun _=>(#[]:Array Value))).update D (Obj.mapSeq fun _=>(arrOf st).map (·.2))).get? D=some (seqObj "list" ((arrOf st).map (·.2)) e2):=⟨_,get?_update_seq d1 fun _=>(arrOf st).map (·.2)⟩
 have r1:=k.run.alter (h':=sn.heap.update kS (Obj.mapSeq fun _=>(#[]:Array Value))) k.k0 k.kn fun c u hc q=>by rw[Y4 _ _ _ _ hc];exact q
 have r2:=r1.alter (h':=(sn.heap.update kS (Obj.mapSeq fun _=>(#[]:Array Value))).update D (Obj.mapSeq fun _=>(arrOf st).map (·.2))) k.d0 k.dn fun c u hc q=>by rw[Y4 _ _ _ _ hc];exact q
 refine wpAny_pure (h _ _ Hn _ e2 r2 k.same k.dn g2 ?_ up ?_)
 ·rw[Array.toList_map]
  exact oB fun p hp=>by
   refine ae.el (z3 p hp) _ ?_
   rintro t _ h2 h3
   rw[h2.txt];exact h3
 ·rw[List.pairwise_map,Ux]
  intro i j hi hj gX
  rw[Jw] at hi hj
  have q:=hs i j (Uq _) (U8 gX) hj
  have ki:∀{i:Nat} (hi:i<(arrOf st).size),ky (zX Hn ts) (arrOf st) i=rk ts (i7 Hn ((arrOf st)[i]).1):=fun{i} hi=>by unfold ky;rw[Ub hi];rfl
  rw[ki hi,ki hj] at q
  rw[Array.getElem_toList,Array.getElem_toList]
  obtain⟨t,m1,k1,_⟩:=z3 (arrOf st)[i] (by rw[<-Array.getElem_toList];exact Jt _)
  obtain⟨u,m2,k2,_⟩:=z3 (arrOf st)[j] (by rw[<-Array.getElem_toList];exact Jt _)
  rw[k1.txt,k2.txt] at q ⊢
  intro z
  have:=(wy m2 m1).mp z
  omega
theorem yU {P:Program}{w:World}{Hn:Hp}{h:Heap}(ok:eK P w Hn h):∀{ts:List Str} {ks:List Value},Paired (eC Hn) ts ks->∃fs,KatTups h ks fs/\fs.length=ks.length/\∀v∈fs,∃z t,v=Value.int z t:=by
 intro ts ks k
 induction k with
 | nil=>exact⟨[],.nil,rfl,fun v hv=>by cases hv⟩
 | @cons t _ _ _ r _ ih=>
  refine ae.el ih _ ?_
  rintro fs a l q
  refine ae.el (r.obj ok) _ ?_
  rintro x o n t1 t2 rfl e1 e2 e3
  refine⟨.int t.length t1::fs,.cons e1 e2 e3 rfl a,by rw[Jx,Jx,l],fun v hv =>?_⟩
  rcases Um.mp hv with rfl|hv
  ·exact⟨_,_,rfl⟩
  ·exact q v hv
theorem tP {A:Around}{E:Value->Shared->Prop}{e1:Nat}{Hn:Hp}{ks:List Value}{sn:Shared}{P:PySem.Fin->Shared->Prop}(k:Kj X H s0 D kS e1 ts Hn ks sn)(rv:Vals (ts.map V.str) vs)(hz:ts.length<=sizeLine)
  (h:B5 X H s0 D ts fun sn=>P (.done (.ret .none)) sn):wpAny (model X.prog X.w) A (ksk_end D false vs.toArray e1 (.ref kS) ks.toArray) P E sn:=by
 have lk:ks.length=ts.length:=k.keys.length.symm
 have lv:vs.length=ts.length:=by have:=rv.length;rw[Ja] at this;exact this.symm
 obtain⟨z1,z2⟩:=j8 k.keys rv
 unfold ksk_end
 try dsimp only
 simp -iota only [Ua,if_false]
 by_cases h2:vs.toArray.size<2
 ·rw[if_pos h2,if_pos h2]
  refine wpAny_bind (wpAny_pure ?_)
  rw[StateT.run_pure]
  refine wpAny_bind (wpAny_pure ?_)
  refine kX k rv hz (Array.Perm.refl _) rfl (fun i j _ gX hj =>?_) h
  have:(arrOf (SortSt.mk' general' (ks.toArray.zip vs.toArray) #[] 7 none)).size<2:=by
   show(ks.toArray.zip vs.toArray).size<2
   rw[Array.size_zip,Jl,Jl]
   rw[Jl] at h2
   omega
  have IU:j<1:=J3 hj (Ws this)
  rw[show i=j by omega]
  exact Yo _
 ·rw[if_neg h2,if_neg h2]
  rw[Jl] at h2
  refine ae.el (yU k.run.aZ k.keys) _ ?_
  rintro fs kt lf hf
  refine wpAny_bind (wpAny_mono (kat_kind (Q:=fun κ s' => κ=l4/\s'=sn) kt (by omega) (fun v hv =>?_) (by decide) ⟨rfl,rfl⟩) (fun κ s' hk =>?_) (fun _ _ z=>z))
  ·refine ae.el (hf v hv) _ ?_
   rintro z t rfl
   exact Looks.of_pure rfl
  obtain⟨rfl,rfl⟩:=hk
  have hL:iC X.prog X.w A E s' (ks.toArray.zip vs.toArray) (zX Hn ts) l4:=Bs k.run.aZ fun x hx=>by
   rw[ksk_zip] at hx
   refine ae.el (z2 x hx) _ ?_
   rintro t h1 h2 _
   exact⟨t,h1,h2⟩
  refine wpAny_bind (wpAny_mono (Ah (a₀:=ks.toArray.zip vs.toArray) (key:=zX Hn ts) (kd:=l4) (st:=SortSt.mk' l4 (ks.toArray.zip vs.toArray) #[] 7 none) (Q:=fun _ st=>Tb (ks.toArray.zip vs.toArray) l4 st/\Sg (zX Hn ts) (arrOf st) 0 (ks.toArray.zip vs.toArray).size) hL ⟨Array.Perm.refl _,rfl,rfl⟩ rfl fun _ t g=>⟨t,g⟩) ?_ fun _ _ z=>z)
  rintro⟨⟨⟩,st⟩ s2 ⟨rfl,t,g⟩
  exact kX k rv hz t.perm t.failed (by rw[t.perm.size_eq];exact g) h
theorem rH {E:Value->Shared->Prop}{f:Value}{r:V->Hp->VK->Prop}{n:Nat}{s:Shared}{P:PySem.Fin->Shared->Prop}(I:Inv X pins σ H s0)(F:BG X f r)(hr:∀t∈ts,∀Hj,aw H Hj->r (.str t) Hj fun v H'=>∃q,v = .ref q/\dz Hj q (.tup [.int t.length,.str t]) H')
  (r0:Run X H s0 H s) (d0:s0.heap.get? D=none) (hd:s.heap.get? D=some (seqObj "list" vs.toArray n)) (dn:H D=none) (rv:Vals (ts.map V.str) vs) (hz:ts.length<=sizeLine) (G2:∀b o,s0.heap.get? b=some o->b<s.heap.objs.size)
  (h:B5 X H s0 D ts fun sn=>P (.done (.ret .none)) sn):wpAny (model X.prog X.w) X.A.in1.in1 (ksk_tree D f false) P E s:=by
 have lv:vs.length=ts.length:=by have:=rv.length;rw[Ja] at this;exact this.symm
 obtain⟨e1,g1⟩:∃e1,(s.heap.update D (Obj.mapSeq fun _=>(#[]:Array Value))).get? D=some (seqObj "list" #[] e1):=⟨_,get?_update_seq hd fun _ =>#[]⟩
 have k1:((s.heap.update D (Obj.mapSeq fun _=>(#[]:Array Value))).push (seqObj "tuple" vs.toArray 0)).objs.size=s.heap.objs.size+1:=by rw[size_push',Heap.size_update]
 have lD:D<s.heap.objs.size:=Jo hd
 unfold ksk_tree
 refine wpAny_bind (listItems_at hd rfl ?_)
 refine wpAny_bind (listUpdate_at hd rfl ?_ (by rw[Jl];omega) (Uq _))
 refine wpAny_bind (seqEpoch_at g1 rfl ?_)
 refine wpAny_bind (wpAny_newTuple ?_ (by show vs.length<=_;omega))
 refine wpAny_bind (wpAny_newList ?_ (Uq _))
 refine wpAny_holding ?_
 show wpAny _ _ (ksk_rest D f false vs.toArray e1 (.ref ((s.heap.update D (Obj.mapSeq fun _=>(#[]:Array Value))).push (seqObj "tuple" vs.toArray 0)).objs.size)) P E { s with heap:=((s.heap.update D (Obj.mapSeq fun _=>(#[]:Array Value))).push (seqObj "tuple" vs.toArray 0)).push (seqObj "list" #[] 0) }
 rw[k1]
 have g3:(((s.heap.update D (Obj.mapSeq fun _=>(#[]:Array Value))).push (seqObj "tuple" vs.toArray 0)).push (seqObj "list" #[] 0)).get? (s.heap.objs.size+1)=some (seqObj "list" #[] 0):=by rw[<-k1];exact Jv _ rfl
 have ra:=r0.alter (h':=s.heap.update D (Obj.mapSeq fun _=>(#[]:Array Value))) d0 dn fun c u hc q=>by rw[Y4 _ _ _ _ hc];exact q
 have rb:=ra.kept (h':=((s.heap.update D (Obj.mapSeq fun _=>(#[]:Array Value))).push (seqObj "tuple" vs.toArray 0)).push (seqObj "list" #[] 0)) fun b u q=>Je _ (Je _ q)
 have kk:Kj X H s0 D (s.heap.objs.size+1) e1 (ts.take 0) H ([]:List Value) { s with heap:=((s.heap.update D (Obj.mapSeq fun _=>(#[]:Array Value))).push (seqObj "tuple" vs.toArray 0)).push (seqObj "list" #[] 0) }:=
  ⟨rb,fun _ _ z=>z,dn,r0.aZ.fresh (Y0 _),d0,by
   cases q:s0.heap.get? (s.heap.objs.size+1) with
   | none=>rfl
   | some o=>exact absurd (G2 _ _ q) (by show ¬s.heap.objs.size+1<s.heap.objs.size;omega),Yw (Wr lD),Je _ (Je _ g1),⟨0,g3⟩,.nil⟩
 unfold ksk_rest
 refine wpAny_bind (wpAny_rule ?_)
 first
  | rw[List.forIn_toArray]
  | (rw[<-Array.forIn_toList];simp -iota only [Yk])
  | rw[<-Array.forIn_toList]
 refine wpAny_bind (ksk_fold (I:=fun j s'=>∃Hj ks,Kj X H s0 D (s.heap.objs.size+1) e1 (ts.take j) Hj ks s') vs 0 _ ⟨_,_,kk⟩ (fun j x s' hx hI =>?_) fun s' hI =>?_)
 ·refine ae.el (hI) _ ?_
  rintro Hj ks k
  rw[Nat.zero_add] at k ⊢
  have hj:j<ts.length:=by have:=(Ju.mp hx).1;omega
  obtain⟨u,hu,ru⟩:=rv.get (i:=j) (x := .str ts[j]) (by rw[Jj,Jf hj];rfl)
  rw[hx] at hu;cases hu
  have lk:ks.length=j:=by have:=k.keys.length;rw[Jr] at this;omega
  refine wpAny_bind (wpAny_attempt (wpAny_mono (F s' σ Hj _ _ _ (k.run.inv I) ru (hr ts[j] (Jt hj) Hj k.same)) (fun v s2 c =>?_) fun _ _ z=>z.elim))
  refine ae.el (k.more I (by omega) c) _ ?_
  rintro e nk Hi k'
  try dsimp only
  refine wpAny_bind (listUpdate_at nk rfl ?_ (by rw[Jl];omega) (Js (Y2 (Wn ..)) (by rw[Jl];omega)))
  refine wpAny_pure ⟨rfl,Hi,ks++[v],?_⟩
  rw[List.take_succ_eq_append_getElem hj]
  exact k'
 ·refine ae.el (hI) _ ?_
  rintro Hj ks k
  rw[Nat.zero_add,lv,Jz] at k
  obtain⟨e,hk⟩:=k.kat
  try dsimp only
  refine wpAny_bind (listItems_at hk rfl ?_)
  exact tP k rv hz h
end
def xE (X:Cx)(id:String)(ks:List Str)(r:List V->List V->Hp->VK->Prop):Prop:=
 ∀ ⦃pins:List (Addr×Obj)⦄ (s:Shared) (σ:St) (H:Hp) (xs:List V) (us:List Value) (zs:List V) (ws:List Value) (Q:VK),Inv X pins σ H s->Vals xs us->Vals zs ws->r xs zs H Q ->
  wpAny (model X.prog X.w) X.A (call (.builtin id) us (ks.zip ws)) (EP X pins σ Q) X.xe s
section
variable {X:Cx}{x:Str}{p pos:Pos}{e:Expr}{es:List Expr}{wU:List Keyword}{t tk:TA}{id:String}{ks:List Str}{r:List V->List V->Hp->VK->Prop}
def IW (r:List V->List V->Hp->VK->Prop)(t tk:TA):TE:=fun σ H Q=>t σ H fun vs H1=>tk σ H1 fun zs H2=>r vs zs H2 Q
theorem uF (hc:xE X id ks r)(hg:Gl X x)(hm:X.mg x=none)(hv:bootBuiltins x=some (.builtin id))(ha:PA X (e::es) t)(NL:PK X wU tk)(hn:x ≠ "__name__":=by decide)(wF:(x==("__debug__" : Str))=false:=by decide)
  (he:backTo pos (starEach (e::es) X.env)=(false,eval e X.env)::backTo pos (starEach es X.env):=by rfl) (mH:(backTo pos (starEach (e::es) X.env)).any (·.1)=false:=by rfl)
  (dM:(backToKw pos (keywordEach wU X.env)).all (·.1.isSome)=true:=by rfl) (og:(backToKw pos (keywordEach wU X.env)).any (·.1.isNone)=false:=by rfl) (Dr:(backToKw pos (keywordEach wU X.env)).filterMap (·.1)=ks:=by rfl) :
  PE X (.Call (.Name x p) (e::es) wU pos) (IW r t tk):=by
 intro pins s σ H Q I h
 refine wpAny_Call_Name_kw (gG I hg hm hv ?_ hn wF)
 refine callWith_kw (aR (ha s σ H _ I h) fun us s1 hz_=>ae.el hz_ _ fun vs H1 I1 r1 q1 =>?_) he mH dM og
 refine aR (NL s1 σ H1 _ I1 q1) fun ws s2 hz_ =>?_
 refine ae.el hz_ _ ?_
 clear hz_
 rintro zs H2 I2 r2 q2
 rw[Dr]
 exact hc s2 σ H2 vs us zs ws Q I2 r1 r2 q2
end
section
variable {X:Cx}(K:Jb)
theorem vE {f:Addr}{r:V->Hp->VK->Prop}(F:BG X (.ref f) r)(hK:X.K=K:=by rfl):xE X "sorted" [Str.ofString "key"] (fun xs zs H Q=>ck fun(p:Addr) (ts:List Str)=>xs=[.ref p]/\zs=[.ref f]/\aE K H p (ts.map V.str) /\
  (∀t∈ts,∀Hj,r (.str t) Hj fun v H'=>∃q,v = .ref q/\dz Hj q (.tup [.int t.length,.str t]) H') /\
  ∀(us:List Str) (q:Addr) (H':Hp),us.Perm ts->us.Pairwise (fun a b =>¬gZ b a)->aw H H'->H q=none->H' q=some (.lst (us.map V.str))->Q (.ref q) H'):=by
 subst hK
 intro pins s σ H xs us zs ws Q I r1 r2 h
 refine ae.el (h) _ ?_
 rintro p ts rfl rfl hq hr q
 refine ae.el (vals1 r1) _ ?_
 rintro u rfl ru
 refine ae.el (vals1 r2) _ ?_
 rintro z rfl rz
 cases ru;cases rz
 refine ae.el (I.list hq) _ ?_
 rintro av rv pl hz
 have ht:ts.length<=sizeLine:=by rw[Ja] at hz;exact hz
 have hi:av.length<=sizeLine:=by rw[<-rv.length];exact hz
 have k1:((s.heap.push (seqObj "list" #[] 0)).update s.heap.objs.size (Obj.mapSeq (· ++ av.toArray))).objs.size=s.heap.objs.size+1:=(Heap.size_update ..).trans (size_push' _ _)
 have k2:(((s.heap.push (seqObj "list" #[] 0)).update s.heap.objs.size (Obj.mapSeq (· ++ av.toArray))).push (seqObj "list" av.toArray 0)).get? _=some (seqObj "list" av.toArray 0):=Jv _ rfl
 have keep:∀b o,s.heap.get? b=some o->(((s.heap.push (seqObj "list" #[] 0)).update s.heap.objs.size (Obj.mapSeq (· ++ av.toArray))).push (seqObj "list" av.toArray 0)).get? b=some o:=fun b o e=>
  Je _ (by rw[Y4 _ _ _ _ (J8 (Jo e))];exact Je _ e)
 show wpAny _ _ (call (.builtin "sorted") [.ref p] [(Str.ofString "key",.ref f)]) _ _ _
 refine call_function_entry_kw kind_sorted plain_sorted entry_sorted (ksk_s1 _ _) ?_
 unfold Builtin.«sorted»
 refine wpAny_bind (m:=checkCount "sorted" 1 1 _) (wpAny_pure (wpAny_bind (collect_list pl.isList (wpAny_bind (wpAny_newList ?_ hi)) hi)))
 rw[k1] at k2
 show wpAny _ _ _ _ _ { s with heap:=Heap.push _ (seqObj "list" av.toArray 0) }
 rw[k1]
 refine wpAny_bind (wpAny_holding (wpAny_call_entry_kw slot_list_sort ⟨_,k2,rfl⟩ entry_list_sort ?_ (ksk_l1 _ _)))
 rw[ksk_t1]
 have d0:s.heap.get? (s.heap.objs.size+1)=none:=Heap.get?_none_of_le (Y0 _)
 refine rH (ts:=ts) I F (fun t ht Hj _=>hr t ht Hj) ((Run.start I).kept keep) d0 k2 (I.aZ.fresh (Y0 _)) rv ht (fun b o e=>Jo (keep b o e)) ?_
 intro vs out Hn sn e run same dn hD rv' up pw
 have lo:vs.length<=sizeLine:=by rw[up.length_eq];exact ht
 have new:=run.told (o := .lst (vs.map V.str)) d0 dn ⟨by rw[Ja];exact lo,out.toList,e,rv',by simpa [seqObj] using hD⟩
 refine⟨_,rfl,wpAny_pure ⟨_,rfl,.ref (s.heap.objs.size+1),_,new.inv I,rfl,q vs _ _ up pw (fun a o z =>?_) (I.aZ.fresh (Y0 _)) aJ⟩⟩
 rw[aq (fun h=>by rw[h,I.aZ.fresh (Y0 _)] at z;cases z)]
 exact same a o z
end
theorem Aj {X:Cx}{st:Stmt}:PS X st (fun _ _ _=>False):=by
 intro pins s σ H D I h
 exact h.elim
section
variable {X:Cx}
theorem kD:∀{xs:List V} {us:List Value} (j:Nat),Vals xs us->Vals (xs.eraseIdx j) (us.eraseIdx j)
 | _,_,_,.nil=>by simp;exact .nil
 | _,_,0,.cons _ t=>by simpa using t
 | _,_,j+1,.cons h t=>by simpa using .cons h (kD j t)
end
noncomputable def inD (d:PyData)(ds:List PyData):Bool:=ds.any fun e=>PyData.eqv e d
def GB (K:Jb)(neg:Bool):R2:=fun x y H Q=>om fun p xs d ds=>y = .ref p/\(aE K H p xs∨d9 K H p xs)/\Den K H d x/\aL K H ds xs/\d.canLay0=true/\(∀e∈ds,SeqAt.shaped e=true)/\Q (.bl (if neg then !inD d ds else inD d ds)) H
section
variable {X:Cx}{pins:List (Addr×Obj)}{σ:St}{H:Hp}{s:Shared}
open Classical in
noncomputable def jM (h:Heap)(d:PyData)(u:Value):Bool:=if hd:∃e as,Reads h u e as/\e.canLay0=true/\e.depth<=64 then PyData.eqv hd.choose d else false
theorem ma (hu:X.A.units+66<cLine)(I:Inv X pins σ H s){d:PyData}{x:V}{v:Value}(hd:Den X.K H d x)(rx:RelV x v)(hc:d.canLay0=true){e:PyData}{y:V}{u:Value}(he:Den X.K H e y)(ry:RelV y u)(hs:SeqAt.shaped e=true):
  SeqAt.EqAt X.A.in1 s u v (PyData.eqv e d):=by
 obtain⟨as,ra⟩:=hd.reads I rx
 obtain⟨bs,rb⟩:=he.reads I ry
 have P6:=SeqAt.depth_of_shaped hs
 refine SeqAt.eqAt_reads e d X.A.in1 s u v bs as rb ra (SeqAt.canLay_of_shaped hs) hc ?_
 have:X.A.in1.units=X.A.units+1:=rfl
 have:min e.depth d.depth<=e.depth:=Nat.min_le_left _ _
 omega
theorem tE (hu:X.A.units+66<cLine)(I:Inv X pins σ H s){d:PyData}{x:V}{v:Value}(hd:Den X.K H d x)(rx:RelV x v)(hc:d.canLay0=true):∀{ds:List PyData} {xs:List V} {us:List Value},aL X.K H ds xs->Vals xs us->(∀e∈ds,SeqAt.shaped e=true) ->
  ∃f:Value->Bool,(∀u∈us,SeqAt.EqAt X.A.in1 s u v (f u))/\us.any f=inD d ds:=by
 intro ds xs us h r hs
 refine⟨jM s.heap d,?_⟩
 induction ds generalizing xs us with
 | nil=>unfold aL at h;subst h;cases r;exact⟨(fun u hu=>nomatch hu),rfl⟩
 | cons e ds ih=>
  unfold aL at h
  obtain⟨y,ys,rfl,h1,h2⟩:=h
  cases r with
  | @cons _ u _ us r1 r2=>
   obtain⟨g1,g2⟩:=ih h2 r2 fun e he=>hs e (Jp _ he)
   have Ih:=hs e Jn
   obtain⟨bs,rb⟩:=h1.reads I r1
   have hex:∃e as,Reads s.heap u e as/\e.canLay0=true/\e.depth<=64:=⟨e,bs,rb,SeqAt.canLay_of_shaped Ih,SeqAt.depth_of_shaped Ih⟩
   have ea:jM s.heap d u=PyData.eqv hex.choose d:=by unfold jM;rw[dif_pos hex]
   have Hb:hex.choose=e:=SeqAt.Reads.unique _ _ _ _ _ hex.choose_spec.choose_spec.2.1 hex.choose_spec.choose_spec.1 rb
   refine⟨fun u' hu' =>?_,?_⟩
   ·rcases Um.mp hu' with rfl|hu'
    ·rw[ea,Hb];exact ma hu I hd rx hc h1 r1 Ih
    ·exact g1 u' hu'
   ·rw[List.any_cons,g2,ea,Hb];rfl
end
section
variable {X:Cx}
theorem uV (hu:X.A.units+66<cLine):dB X (compareOp .NotIn) (GB X.K true):=by
 intro pins s σ H x y v u Q I rx ry h
 obtain⟨p,xs,d,ds,rfl,hq,hd,hds,hc,hs,q⟩:=h
 cases ry
 rcases hq with hq|hq
 ·obtain⟨av,r,pl,hz⟩:=I.list hq
  obtain⟨f,g1,g2⟩:=tE hu I hd rx hc hds r hs
  refine SeqAt.notIn_listAt f pl.isList (fun w hw=>g1 w (by simpa using hw)) ⟨.bl _,H,I,rfl,?_⟩
  rw[show av.toArray.any f=av.any f by simp,g2]
  exact q
 ·obtain⟨av,r,pl,hz⟩:=I.tuple hq
  obtain⟨f,g1,g2⟩:=tE hu I hd rx hc hds r hs
  refine SeqAt.notIn_tupleAt f pl (fun w hw=>g1 w (by simpa using hw)) ⟨.bl _,H,I,rfl,?_⟩
  rw[show av.toArray.any f=av.any f by simp,g2]
  exact q
theorem yY (K:Jb)(hu:X.A.units+66<cLine)(hK:X.K=K:=by rfl):dB X (compareOp .NotIn) (GB K true):=by subst hK;exact uV hu
end
theorem zP {k:Nat}{A:Around}(r:dH k A):A.units+66<cLine:=by have:=r.un;omega
open PySem.Calls Builtin Builtin.ObjectAttr
section
variable {prog:Program}{w:World}{A:Around}{E:Value->Shared->Prop}{h0:Heap}{g0:Array GenState}{d0:Drawn}{t0:Nat}{Qd:OsState}{nm qn:Str}{C N fi:Addr}{bs up tail:List Value}{Oy:Bool}{sn:List Str}{sub:List Value}{ab:Bool}
 {col:Option Bool} {dd:Option Addr} {k0 k1 k2 k3 k5:Option Value} {B newId HD:String}
end
section
variable {X:Cx}{pins:List (Addr×Obj)}{σ:St}{H:Hp}{s:Shared}{a:Addr}{u v:HO}
theorem Inv.Gs (I:Inv X pins σ H s)(hu:H a=some u)(nt:∀xs,u ≠ .tup xs)(nf:∀o w,X.H₀ a≠some (.frz o w))(nb:∀ps,u ≠ .tbl ps)(no:∀y,u ≠ .own y)(hv:∀H',(∀b,H b=some (.own a)->H' b=some (.own a))->(∀b xs,H b=some (.tup xs)->H' b=some (.tup xs))->bo X.prog X.w H' s.heap a v):
  Inv X pins σ (upd H a v) s:=by
 have jH:∀{b:Addr},H b=none->b≠a:=fun e z=>by rw[z,hu] at e;cases e
 have own:∀b y,H b=some (.own y)->upd H a v b=some (.own y):=fun b y e=>by
  rw[aq (fun z=>by rw[z,hu] at e;exact no y (Option.some.inj e))];exact e
 have tup:∀b xs,H b=some (.tup xs)->upd H a v b=some (.tup xs):=fun b xs e=>by
  rw[aq (fun z=>by rw[z,hu] at e;exact nt xs (Option.some.inj e))];exact e
 refine⟨I.ok,I.os,I.bare,⟨I.base.keep,I.base.slot,fun b o q n hx =>?_,I.base.there,fun b xs q=>tup b xs (I.base.fU b xs q),fun b o w q =>?_,fun b ps q =>?_⟩,I.loc,I.cell,?_,fun x c e =>?_,fun p hp =>?_,fun b o e =>?_,I.len⟩
 ·have:=I.base.free b o q n hx
  rw[aq (jH this)];exact this
 ·have:=I.base.eV b o w q
  rw[aq (fun z=>by rw[z] at q;exact nf _ _ q)];exact this
 ·obtain⟨more,e⟩:=I.base.gF b ps q
  exact⟨more,by rw[aq (fun z=>by rw[z,hu] at e;exact nb _ (Option.some.inj e))];exact e⟩
 ·rw[aq (jH I.free)];exact I.free
 ·rw[aq (jH (I.freeC x c e))];exact I.freeC x c e
 ·obtain⟨p1,p2,p3⟩:=I.pin p hp
  exact⟨p1,by rw[aq (jH p2)];exact p2,p3⟩
 ·by_cases z:b=a
  ·subst z
   rw[aJ] at e
   cases e
   exact hv _ (fun b e=>own b _ e) tup
  ·rw[aq z] at e
   exact(I.aZ b o e).fP (fun _ _ _ q=>q) (fun b e=>own b _ e) tup
end
section
variable {prog:Program}{w:World}{A:Around}{E:Value->Shared->Prop}{s:Shared}{d it:Addr}{o od:Obj}{es:Array DictEntry}{i ep:Nat}
theorem qG {Q:Value->Shared->Prop}(nm:(d==sysModules)=false)(ty:s.TypeIs (.ref d) "dict")(od:s.heap.get? d=some o)(da:o.data = .dict es ep)
  (k:Q (.ref s.heap.objs.size) { s with heap:=s.heap.push { cls := .type "dict_keyiterator",data := .fields #[.ref d,.int 0 0,.int es.size 0,.int ep 0] } }):wpAny (model prog w) A (pyIter (.ref d)) Q E s:=by
 refine wpAny_pyIter_slot ty F.slot_dict_iter (wpAny_call_entry F.slot_dict_iter ty F.entry_dict_iter (wpAny_bind (wpAny_bind (wpAny_notOrdered_dict ty (wpAny_pure (wpAny_bind ?_))))) (F.args_dict_iter_1 _))
 change wpAny _ _ (pure d) _ _ _
 refine wpAny_pure (wpAny_bind ?_)
 unfold Builtin.Dict.showsAll
 rw[nm]
 exact wpAny_pure (wpAny_bind (wpAny_dictEntries od da (wpAny_bind (wpAny_dictEpoch od da (wpAny_bind (wpAny_newObj_type (wpAny_pure ⟨_,rfl,_,_,⟨_,Jv _ rfl,rfl⟩,F.slot_dict_keyiterator_next.lookup,by simpa [rawInt] using k⟩)))))))
theorem kE {Q:Option Value->Shared->Prop}(hit:s.heap.IsKeyIter it d i es.size ep)(Mc:s.heap.get? d=some od)(Mm:od.data = .dict es ep)(calm:es.size<=i->A.handled=none)
  (more:∀(cc:i<es.size) (h':Heap),h'.IsKeyIter it d (i+1) es.size ep->Yr it s.heap h'->Q (some es[i].key) { s with heap:=h' })
  (done:es.size<=i->∀h':Heap,Heap.ExtBut it s.heap h'->Q none { s with heap:=h' }):wpAny (model prog w) A (pyNext (.ref it)) Q E s:=by
 have ty:=hit.typeIs
 obtain⟨o,ho,hc,hd⟩:=id hit
 unfold pyNext
 refine wpAny_bind (wpAny_attempt (wpAny_callSpecial?_slot (name:=Str.ofString "__next__") ty F.slot_dict_keyiterator_next (wpAny_call_entry F.slot_dict_keyiterator_next ty F.entry_dict_keyiterator_next (wpAny_bind (wpAny_pure (wpAny_bind (wpAny_bind ?_)))) (F.args_dict_keyiterator_next_1 _))))
 first|refine wpAny_bind (wpAny_typeNameOfWhole_keyiter ty (wpAny_pure (wpAny_bind (wpAny_fieldsOf ho hd ?_))))|refine wpAny_bind (wpAny_typeNameOf_keyiter ty (wpAny_pure (wpAny_bind (wpAny_fieldsOf ho hd ?_))))
 simp -iota only [show Builtin.Dict_items.ownsTuple "dict_keyiterator" = false by decide,Ua,if_false]
 change wpAny _ _ (if (Value.ref d==Value.none)=true then _ else _) _ _ _
 rw[if_neg (show(Value.ref d==Value.none)≠true from Jm)]
 refine wpAny_bind (wpAny_pure (wpAny_bind (wpAny_dictEntries Mc Mm ?_)))
 rw[if_neg (by simp)]
 refine wpAny_bind (wpAny_pure (wpAny_bind (wpAny_dictEpoch Mc Mm ?_)))
 rw[if_neg (by simp)]
 refine wpAny_pure ?_
 rcases Nat.lt_or_ge i es.size with cc|hge
 ·dsimp only
  simp -iota only [show ¬(i:Int)<0 by omega,if_false,Uz,Ub cc]
  dsimp only
  refine wpAny_bind ?_
  first|refine wpAny_bind (wpAny_typeNameOfWhole_keyiter ty (wpAny_pure (wpAny_bind (wpAny_isOneOf_keyiter ty ?_))))|refine wpAny_bind (wpAny_typeNameOf_keyiter ty (wpAny_pure (wpAny_bind (wpAny_isOneOf_keyiter ty ?_))))
  change wpAny _ _ (setField (.ref it) 1 (rawInt ((i:Int)+1)) >>= _) _ _ _
  refine wpAny_bind (wpAny_setField ho hd (by simp) (wpAny_bind (wpAny_holding ?_)))
  have moved:(s.heap.update it (Obj.mapFields (·.setIfInBounds 1 (rawInt ((i:Int)+1))))).IsKeyIter it d (i+1) es.size ep:=by
   refine⟨_,Uu _ ho (Obj.isFreed_of_fields (Obj.data_mapFields hd _)),by rw[Obj.cls_mapFields];exact hc,?_⟩
   rw[Obj.data_mapFields hd]
   simp[rawInt]
  have Nr:Shared.TypeIs { s with heap:=s.heap.update it (Obj.mapFields (·.setIfInBounds 1 (rawInt ((i:Int)+1)))) } (.ref it) "dict_keyiterator":=moved.typeIs
  refine wpAny_bind (wpAny_isOneOf_keyiter Nr ?_)
  change wpAny _ _ (pure es[i].key) _ _ _
  exact wpAny_pure (wpAny_pure ⟨_,rfl,wpAny_pure (more cc _ moved (Yr.update ..))⟩)
 ·dsimp only
  simp -iota only [show ¬(i:Int)<0 by omega,if_false,Uz,Yh hge]
  dsimp only
  refine wpAny_bind ?_
  first|refine wpAny_bind (wpAny_typeNameOfWhole_keyiter ty (wpAny_pure ?_))|refine wpAny_bind (wpAny_typeNameOf_keyiter ty (wpAny_pure ?_))
  change wpAny _ _ (setField (.ref it) 0 .none >>= _) _ _ _
  refine wpAny_bind (wpAny_setField ho hd (by simp) ?_)
  change wpAny _ _ (newExc (.type "StopIteration") [] >>= _) _ _ _
  refine wpAny_bind ?_
  simp only[newExc,newTuple]
  refine wpAny_bind (wpAny_newObj_type (wpAny_bind (m:=firstArgMember _ _) (wpAny_of_eq (a:=Value.none) (by first|rfl|(simp only[firstArgMember];rfl)) (wpAny_newObj_type ?_ (by size_fits)))) (by size_fits))
  simp -iota only [raiseNew]
  refine wpAny_bind (wpAny_handled ?_)
  rw[show A.in1.handled=none from calm hge]
  refine wpAny_bind (wpAny_pure (wpAny_throw ?_))
  exact wpAny_bind (wpAny_isInstance (T := "StopIteration") (b:=true) ⟨_,Jv _ rfl,rfl⟩ isSubtype_stop (wpAny_pure (done hge _ (((Yr.update ..).extBut.push _).push _))))
end
section
variable {X:Cx}{pins:List (Addr×Obj)}{σ:St}{H:Hp}{s:Shared}{a:Addr}{u v:HO}
theorem Inv.zi {kvs:List (List Key×V)}(I:Inv X pins σ H s)(h:H a=some (.dT kvs)):fR fun ob es ep=>s.heap.get? a=some ob/\ob.data = .dict es ep/\es.size=kvs.length/\(a==sysModules)=false/\s.TypeIs (.ref a) "dict" /\ Inv X pins σ (upd H a (.frz ob (.dT kvs))) s:=by
 obtain⟨z,ns,xs,kt,o,es,ep,e,ex,hd,he,nd⟩:=(show bo X.prog X.w H s.heap a (.dT kvs) from I.aZ a _ h)
 obtain⟨_,_,_,_,dd⟩:=w6 I.aZ h
 refine⟨o,es,ep,e,hd,?_,ns,dd.typeIs,I.Gs h (fun _ z=>nomatch z) (fun o w q =>?_) (fun _ z=>nomatch z) (fun _ z=>nomatch z) fun H' _ ht=>⟨e,z,ns,xs,KT.keeps kt ht,o,es,ep,e,ex,hd,he,nd⟩⟩
 ·have:=congrArg Ur he
  rw[Ja,<-Paired.length kt] at this
  exact this
 ·have:=I.base.eV a o w q
  rw[h] at this;cases this
end
theorem kt_at {H:Hp}{kvs:List (List Key×V)}{xs:List (List Key×Addr×Value)}(r:KT H kvs xs):∀{i:Nat} {q:List Key×V},kvs[i]? = some q->∃b v,xs[i]? = some (q.1,b,v)/\H b=some (.tup (q.1.map kV)):=by
 induction r with
 | nil=>intro i q e;simp at e
 | @cons p x ps xs h t ih=>
  intro i q e
  cases i with
  | zero=>
   cases e
   obtain⟨k,b,v⟩:=x
   obtain⟨rfl,h2,_⟩:=h
   exact⟨b,v,rfl,h2⟩
  | succ i=>exact ih e
noncomputable def M7 (ob:Obj)(a:Addr)(kvs:List (List Key×V)):It:=⟨fun i H=>H a=some (.frz ob (.dT kvs))/\i<kvs.length,fun i H x H'=>H'=H/\ck fun(q:List Key×V) (b:Addr)=>kvs[i]? = some q/\x = .ref b/\H b=some (.tup (q.1.map kV)),fun i H=>H a=some (.frz ob (.dT kvs))/\kvs.length<=i⟩
theorem rS {P:Program}{w:World}{K:Jb}{tg:Expr}{a it:Addr}{ob:Obj}{es:Array DictEntry}{ep:Nat}{kvs:List (List Key×V)}(hd:ob.data = .dict es ep)(hz:es.size=kvs.length):
  Turn P w K tg (M7 ob a kvs) [it] it (fun i h=>h.IsKeyIter it a i es.size ep) where
 mem:=by simp
 obj:=fun i h st b hb=>by
  have e:b=it:=by simpa using hb
  subst e
  obtain⟨o,e,c,d⟩:=st
  exact⟨o,e,fun v z=>by rw[d] at z;cases z⟩
 keep:=fun i h h' st k=>by
  obtain⟨o,e,c,d⟩:=st
  exact⟨o,k it (by simp) o e,c,d⟩
 item:=by
  intro X hP hw hK hc i pins s σ H E I hf st hg
  subst hP hw hK
  obtain⟨ha,hi⟩:=hg
  obtain⟨f0,f1,f2,f3,f4,f5⟩:=hf it (by simp)
  obtain⟨e,z,ns,xs,kt,o,es',ep',e',ex,hd',he,nd⟩:=(show bo X.prog X.w H s.heap a (.frz ob (.dT kvs)) from I.aZ a _ ha)
  rw[e] at e';cases e'
  rw[hd] at hd';cases hd'
  have cc:i<es.size:=by omega
  obtain⟨b,v,hx,hb⟩:=kt_at kt (Jf hi)
  have wj:es[i].key = .ref b:=by
   have e1:es.toList[i]? = some es[i]:=by rw[Uk,Ub cc]
   rw[he,Jj,hx] at e1
   have e1:=Option.some.inj e1
   rw[<-e1];rfl
  refine kE st e hd (fun z=>absurd cc (Nat.not_lt.mpr z)) (fun _ h' aD sb =>?_) fun z=>absurd cc (Nat.not_lt.mpr z)
  have I1:Inv X pins σ H { s with heap:=h' }:=I.turned (t':=s.toks) (fun b o hb e=>(sb.2 b hb).trans e) f0 f1 f3 f4 f5
  obtain⟨o,e,c,d⟩:=id aD
  refine⟨_,rfl,w5 (s:={ s with heap:=h' }) e c d (by decide) ⟨.ref b,H,I1,wj,⟨rfl,_,b,Jf hi,rfl,hb⟩,aD,fun b hb=>(hf b hb).1⟩⟩
 done:=by
  intro X hP hw hK hc i pins s σ H E I hf st hg
  subst hP hw hK
  obtain⟨ha,hi⟩:=hg
  obtain⟨f0,f1,f2,f3,f4,f5⟩:=hf it (by simp)
  refine kE st (show bo X.prog X.w H s.heap a (.frz ob (.dT kvs)) from I.aZ a _ ha).1 hd (fun _=>I.ok.hd hc) (fun z=>by omega) fun _ h' eb=>⟨rfl,I.turned (t':=s.toks) (fun b o hb e=>eb b o hb e) f0 f1 f3 f4 f5⟩
 self:=fun A i s Q E st h=>wpAny_pyIter_keyiter st h
def Cz (tl:TE):TI:=fun σ H R=>tl σ H fun x H1=>ck fun(a:Addr) (kvs:List (List Key×V))=>x = .ref a/\H1 a=some (.dT kvs)/\∀ob,R (M7 ob a kvs) (upd H1 a (.frz ob (.dT kvs)))
theorem wa {X:Cx}{tg l:Expr}{tl:TE}(hl:PE X l tl):PI X tg l (Cz tl):=by
 intro pins s σ H R I h
 refine aR (hl s σ H _ I h) fun v s1 ⟨x,H1,I1,r1,a,kvs,e,ha,q⟩=>?_
 subst e
 cases r1
 refine ae.el (I1.zi ha) _ ?_
 rintro ob es ep eo hd hz ns hT I2
 refine qG ns hT eo hd ?_
 have hk:∀b o,s1.heap.get? b=some o->(s1.heap.push { cls := .type "dict_keyiterator",data := .fields #[.ref a,.int 0 0,.int es.size 0,.int ep 0] }).get? b=some o:=fun b o e=>Je _ e
 have I3:=I2.kept (t':=s1.toks) hk
 refine⟨_,_,_,_,_,rfl,I3,rS hd hz,⟨_,Jv _ rfl,rfl,rfl⟩,fun c hc =>?_,q ob⟩
 have G4:s1.heap.objs.size<=c:=by
  simp at hc
  rw[hc];exact Jd _
 exact I2.kj G4 (I2.aZ.fresh G4)
def Gj (p:Addr)(Q:VK):List (V×V)->Hp->Prop
 | [(y,v)],H2=>H2 p=some (.dT [])/\ck fun(k:List Key) (b:Addr)=>y = .ref b/\H2 b=some (.tup (k.map kV))/\∀H3,lj H2 p (.dT [(k,v)]) H3->Q (.ref p) H3
 | _,_=>False
def BU (tk tv:TE):TE:=fun σ H Q=>∀p H0,dz H p (.dT []) H0->tk σ H0 fun y H1=>tv σ H1 fun v H2=>H2 p=some (.dT [])/\ck fun(k:List Key) (b:Addr)=>y = .ref b/\H2 b=some (.tup (k.map kV))/\∀H3,lj H2 p (.dT [(k,v)]) H3->Q (.ref p) H3
theorem oS {X:Cx}{pos:Pos}{k v:Expr}{tk tv:TE}(hu:X.A.units+1<cLine)(hk:PE X k tk)(hv:PE X v tv):PE X (.Dict [some k] [v] pos) (BU tk tv):=by
 intro pins s σ H Q I q
 have hn:=I.aZ.fresh (Jd s.heap.objs.size)
 have I1:=I.laid (a:=s.heap.objs.size) (o := .dT []) (h':=s.heap.push { cls := .type "dict",data := .dict #[] }) (t':=s.toks) (fun _ _ q=>Je _ q) (Jd _) (wH s.heap I.big)
 have hp:=kg (X:=X) (pos:=pos) hk hv tm
 refine wpAny_Dict_any rfl rfl (by simp) (by show 1<=15;decide) (aR (hp _ σ _ (Gj s.heap.objs.size Q) I1 (q _ _ ⟨hn,rfl⟩)) fun ws s2 hz_ =>?_)
 refine ae.el hz_ _ ?_
 clear hz_
 intro ps H2 I2 rel hP
 cases ps with
 | nil=>exact False.elim hP
 | cons yv ps=>
 cases ps with
 | cons _ _=>exact False.elim hP
 | nil=>
  obtain⟨y,v⟩:=yv
  obtain⟨e,k,b,rfl,eb,q2⟩:=hP
  cases rel with
  | @cons p r ps qs h t=>
   cases t
   obtain⟨ku,vu⟩:=r
   obtain⟨r1,r2⟩:=h
   cases (show ku=Value.ref b from r1)
   obtain⟨z,hd,xs,kt,dd⟩:=w6 I2.aZ e
   cases kt
   unfold storeAll
   rw[List.forIn_cons]
   refine wpAny_bind (wpAny_bind (wpAny_dictSet_heap (knd:=tupleKind (bj X.prog X.w)) (show X.A.units<cLine by omega) (jo I2.aZ eb) dd fun h' dd' hs=>wpAny_pure ?_))
   refine wpAny_pure ⟨.ref s.heap.objs.size,_,?_,rfl,q2 _ ⟨rfl⟩⟩
   obtain⟨q,es,ep,hq,h2,h3,h4,_,h5⟩:=dd'
   refine gP I2 (by rw[e];exact True.intro) hs ⟨q,hq⟩ ⟨by show 1<=sizeLine;decide,hd,_,(KT.put (kvs:=[]) .nil k eb r2).keeps fun c ys ec =>?_,q,es,ep,hq,h2,h3,h4,h5⟩
   rw[aq (wq ec e (fun z=>nomatch z))]
   exact ec
def DN (H:Hp)(a:Addr)(n:Nat):Prop:=(∃kvs,Rd H a (.dK kvs)/\n=kvs.length)∨∃kvs,Rd H a (.dT kvs)/\n=kvs.length
theorem vw {P:Program}{w:World}{H:Hp}{s:Shared}{a:Addr}{n:Nat}(ok:eK P w H s.heap)(h:DN H a n):fR fun o es ep=>s.heap.get? a=some o/\o.data = .dict es ep/\es.size=n/\(a==sysModules)=false/\s.TypeIs (.ref a) "dict":=by
 rcases h with ⟨kvs,e,rfl⟩|⟨kvs,e,rfl⟩
 ·obtain⟨z,hd,vs,rel,dd⟩:=mI ok e
  have ht:=dd.typeIs
  obtain⟨o,es,ep,ho,hc,hdat,hk,hp,hn⟩:=dd
  refine⟨o,es,ep,ho,hdat,?_,hd,ht⟩
  have:=hp.length
  rw[rel.length,<-this];simp
 ·obtain⟨z,hd,xs,rel,dd⟩:=lR ok e
  have ht:=dd.typeIs
  obtain⟨o,es,ep,ho,hc,hdat,he,_,hn⟩:=dd
  refine⟨o,es,ep,ho,hdat,?_,hd,ht⟩
  have:=congrArg Ur he
  rw[Ja,<-Paired.length rel] at this
  exact this
def Lk:R2:=fun x y H Q=>fR fun(a b:Addr) (n:Nat)=>x = .ref a/\y = .ref b/\DN H a n/\DN H b 0/\Q (.bl (n==0)) H
theorem PD {X:Cx}(hu:X.A.units<cLine):dB X (compareOp .Eq) Lk:=by
 intro pins s σ H x y u v Q I rx ry h
 obtain⟨a,b,n,rfl,rfl,da,db,q⟩:=h
 cases (show u=Value.ref a from rx)
 cases (show v=Value.ref b from ry)
 obtain⟨oa,es,ep,hoa,hda,u9,hna,ta⟩:=vw I.aZ da
 obtain⟨ob,es',ep',FI,wF,AU,hnb,tb⟩:=vw I.aZ db
 refine wpAny_richCompare_same_room (op := .Eq) ta tb PySem.F.slot_dict_eq (wpAny_call_entry PySem.F.slot_dict_eq ta PySem.F.entry_dict_eq ?_ (PySem.F.args_dict_eq_2 _ _)) hu
 show wpAny _ _ (Builtin.Dict.dictSlotArgs "__eq__" ⟨[.ref a,.ref b],[]⟩ >>= _) _ _ s
 refine wpAny_bind ?_
 unfold Builtin.Dict.dictSlotArgs
 refine wpAny_bind (wpAny_notOrdered_dict ta ?_)
 show wpAny _ _ (pure (Value.ref a,Value.ref b)) _ _ s
 refine wpAny_pure ?_
 refine wpAny_bind (wpAny_isInstance (T := "dict") tb PySem.F.sub_dict_dict ?_)
 simp only[Bool.not_true,Ua,if_false]
 refine wpAny_bind (wpAny_pure (wpAny_bind (wpAny_pure ?_)))
 refine wpAny_bind ?_
 unfold Builtin.Dict.samePairs Builtin.Dict.showsAll
 rw[if_neg (show ¬(a==sysModules)=true by rw[hna];exact Jm),if_neg (show ¬(b==sysModules)=true by rw[hnb];exact Jm)]
 refine wpAny_bind (wpAny_pure (wpAny_bind (wpAny_pure ?_)))
 refine wpAny_bind (wpAny_dictEntries hoa hda ?_)
 dsimp only
 refine wpAny_bind (wpAny_dictEntries FI wF ?_)
 by_cases hz:n=0
 ·rw[if_neg (by rw[u9,AU,hz];simp)]
  refine wpAny_bind (wpAny_dictEpoch hoa hda ?_)
  refine wpAny_bind ?_
  rw[Std.Legacy.Range.forIn_eq_forIn_range']
  have e0:es.size=0:=by omega
  rw[e0]
  refine wpAny_pure (wpAny_pure (wpAny_pure ⟨_,rfl,(fun x=>nomatch x),?_⟩))
  refine⟨_,H,I,?_,q⟩
  rw[hz];rfl
 ·rw[if_pos (by rw[u9,AU];simpa using hz)]
  refine wpAny_bind (wpAny_rule (wpAny_pure (wpAny_pure ⟨_,rfl,(fun x=>nomatch x),?_⟩)))
  refine⟨_,H,I,?_,q⟩
  have:(n==0)=false:=by simpa using hz
  rw[this];rfl
theorem xn {prog:Program}{w:World}{kvs:List (Key×V)}{vs:List (Key×Value)}(h:KV kvs vs):∀{av:List Value},av.length=vs.length ->
  (∀(j:Nat) v,av[j]? = some v->∃k x,vs[j]? = some (k,x)/\(bj prog w).is k v=true)->Vals (kvs.map fun q=>kV q.1) av:=by
 unfold KV at h
 induction h with
 | nil=>
  intro av hl _
  rw[U7 hl]
  exact .nil
 | @cons p q kvs vs h1 _ ih=>
  intro av hl h
  cases av with
  | nil=>cases hl
  | cons v av=>
  refine .cons ?_ (ih (Nat.succ.inj hl) fun j u e=>h (j+1) u e)
  obtain⟨k,x,e1,e2⟩:=h 0 v rfl
  cases e1
  show RelV (kV p.1) v
  rw[show p.1=k from h1.1]
  rcases bB e2 with ⟨n,t,z1,z2⟩|⟨y,t,z1,z2⟩
  ·rw[z1,z2];exact⟨t,rfl⟩
  ·rw[z1,z2];exact⟨t,rfl⟩
section
variable {X:Cx}
theorem DJ (hc:X.calm=true):cn X (.type "list") (fun xs H Q=>ck fun(d:Addr) (kvs:List (Key×V))=>xs=[.ref d]/\H d=some (.dK kvs)/\∀p H',dz H p (.lst (kvs.map fun q=>kV q.1)) H'->Q (.ref p) H'):=by
 intro pins s σ H xs us Q I r h
 obtain⟨d,kvs,rfl,hd,q⟩:=h
 obtain⟨u,rfl,ru⟩:=vals1 r
 cases ru
 obtain⟨z,ns,vs,kv,o,es,ep,e,rr⟩:=I.aZ d _ hd
 have kl:=kv.length
 refine kdl_call (kdl_dict (knd:=bj X.prog X.w) (kvs:=vs) (ep:=ep) ns) (I.ok.hd hc) ⟨o,es,e,rr⟩ (by omega) fun h' tk acc c k hS items =>?_
 refine⟨.ref s.heap.objs.size,_,I.laid (a:=s.heap.objs.size) (o := .lst (kvs.map fun q=>kV q.1)) (t':=tk) k (Jd _) ⟨by rw[Ja];exact z,acc.toList,c,?_,by simpa using hS⟩,rfl,q _ _ ⟨I.aZ.fresh (Jd _),rfl⟩⟩
 exact xn kv (by rw[Jw];exact items.1) fun j v ej=>items.2 j v (by rw[<-Uk];exact ej)
end
section
variable {prog:Program}{w:World}{A:Around}{R:Result->Shared->Prop}{s:Shared}{kx vx t1 i1 t2 i2:Expr}{scope:Scope}{pos:Pos}{it:Value}{D:Addr}{env:Env}
theorem oV (I:Nat->Shared->Prop)
  (turn:∀n s,I n s->wpAny (model prog w) A (pyNext it) (fun r s1=>match r with
   | none=>R (.ok .next) s1
   | some v=>wpAny (model prog w) A (letOwnedTupleGo t2 it v) (fun _ s1'=>wpAny (model prog w) A (assign t2 env v) (fun _ s2=>
     wpAny (model prog w) A (eval kx env) (fun kv s4=>wpAny (model prog w) A (eval vx env) (fun vv s5=>
       wpAny (model prog w) A (dictSet D kv vv) (fun _ s6=>∃m,m<n/\I m s6) fN s5) fN s4) fN s2) fN s1') fN s1) fN s)
  (n:Nat) (h:I n s):codeAny (model prog w) A (.compLoop (.DictComp kx vx [⟨t1,i1,[],0⟩,⟨t2,i2,[],0⟩] scope pos) 1 it (.ref D) env) R s:=by
 refine codeAny_loop rfl I (fun n s hI=>(show wpAny _ A (Sem.onRaise (compTurn (.DictComp kx vx [⟨t1,i1,[],0⟩,⟨t2,i2,[],0⟩] scope pos) 1 it (.ref D) env) (fun x=>do noteFrame x env;theTreesLotGoes x)) _ _ s from wpAny_noted ?_)) n h
 refine wpAny_bind (wpAny_standAt (wpAny_bind (bp (aR (turn n s hI) fun r s1 h1 =>?_))))
 cases r with
 | none=>exact wpAny_pure h1
 | some v=>
  refine wpAny_bind (bp (aR h1 fun _ s1' h1' =>?_))
  refine wpAny_bind (bp (aR h1' fun _ s2 h3=>wpAny_bind (wpAny_pure (a:=true) ?_)))
  exact wpAny_bind (wpAny_bind (bp (aR h3 fun kv s4 h4=>wpAny_bind (wpAny_holding (bp (aR h4 fun vv s5 h5=>wpAny_bind (wpAny_standAt (wpAny_holding (bp (aR h5 fun _ s6 h6=>wpAny_pure ⟨rfl,h6⟩))))))))))
theorem pj (hs:∀x,foldedSetIterable i2 env x=pure x)(I:Nat->Shared->Prop)
  (turn:∀n s,I n s->wpAny (model prog w) A (pyNext it) (fun r s1=>match r with
   | none=>R (.ok .next) s1
   | some v=>wpAny (model prog w) A (letOwnedTupleGo t1 it v) (fun _ s1'=>wpAny (model prog w) A (assign t1 env v) (fun _ s2=>
     wpAny (model prog w) A (eval i2 env) (fun x s3=>wpAny (model prog w) A (pyIter x) (fun it2 s4=>
       codeAny (model prog w) A (.compStart (.DictComp kx vx [⟨t1,i1,[],0⟩,⟨t2,i2,[],0⟩] scope pos) 1 it2 (.ref D) env) (fun r s5=>match r with | .ok _=>∃m,m<n/\I m s5 | .error _=>False) s4) fN s3) fN s2) fN s1') fN s1) fN s)
  (n:Nat) (h:I n s):codeAny (model prog w) A (.compLoop (.DictComp kx vx [⟨t1,i1,[],0⟩,⟨t2,i2,[],0⟩] scope pos) 0 it (.ref D) env) R s:=by
 refine codeAny_loop rfl I (fun n s hI=>(show wpAny _ A (Sem.onRaise (compTurn (.DictComp kx vx [⟨t1,i1,[],0⟩,⟨t2,i2,[],0⟩] scope pos) 0 it (.ref D) env) (fun x=>do noteFrame x env;theTreesLotGoes x)) _ _ s from wpAny_noted ?_)) n h
 refine wpAny_bind (wpAny_standAt (wpAny_bind (bp (aR (turn n s hI) fun r s1 h1 =>?_))))
 cases r with
 | none=>exact wpAny_pure h1
 | some v=>
  refine wpAny_bind (bp (aR h1 fun _ s1' h1' =>?_))
  refine wpAny_bind (bp (aR h1' fun _ s2 h3=>wpAny_bind (wpAny_pure (a:=true) ?_)))
  refine wpAny_bind (bp (aR h3 fun x s3 h4=>wpAny_bind (wpAny_standAt (wpAny_bind (wpAny_of_eq (hs x) (wpAny_bind (wpAny_holding (bp (aR h4 fun it2 s4 h5 =>?_)))))))))
  refine wpAny_bind (wpAny_runOwn (codeAny_mono h5 fun r s5 h6 =>?_))
  cases r with
  | ok f=>exact wpAny_pure ⟨rfl,h6⟩
  | error e=>exact h6.elim
theorem oX {acc:Value}(h0:codeAny (model prog w) A (.compLoop (.DictComp kx vx [⟨t1,i1,[],0⟩,⟨t2,i2,[],0⟩] scope pos) 1 it acc env) R s)
  (h:wpAny (model prog w) A (pyIter it) (fun it' s'=>codeAny (model prog w) A (.compLoop (.DictComp kx vx [⟨t1,i1,[],0⟩,⟨t2,i2,[],0⟩] scope pos) 1 it' acc env) R s') fN s) :
  codeAny (model prog w) A (.compStart (.DictComp kx vx [⟨t1,i1,[],0⟩,⟨t2,i2,[],0⟩] scope pos) 1 it acc env) R s:=by
 refine codeAny_of_tree ?_
 show wpAny _ A ((compStart (.DictComp kx vx [⟨t1,i1,[],0⟩,⟨t2,i2,[],0⟩] scope pos) 1 it acc env).onRaise (fun x=>do noteFrame x env;standAt theWindowsPlace)) _ _ s
 refine wpAny_notedAt ?_
 unfold compStart
 show wpAny _ A (ask >>= _) _ _ s
 refine wpAny_bind (wpAny_askSetting (wpAny_ite ?_))
 split
 ·first
   | exact wpAny_bind (wpAny_pure (wpAny_pure (And.intro rfl h0)))
   | exact wpAny_pure (And.intro rfl h0)
 ·first
   | exact wpAny_bind (wpAny_rule (wpAny_bind (wpAny_standAt (wpAny_bind (bp (aR h fun it' s' h'=>wpAny_pure (And.intro rfl h')))))))
   | (refine wpAny_bind (wpAny_rule ?_);show wpAny _ _ (standAt i2.pos >>= _) _ _ s;exact wpAny_bind (wpAny_standAt (wpAny_bind (bp (aR h fun it' s' h'=>wpAny_pure (And.intro rfl h'))))))
end
def wZ (J:It)(n:Nat)(js:List Nat)(g:TG)(vd:TI)(i:Nat)(tk tv:TE)(σ:St)(D:Addr)(H1:Hp)(fin:Hp->Prop):Prop:=
 ∃W:Nat->Nat->Hp->Prop,(∃m,W 0 m H1)/\∀k m H,W k m H ->
  (J.stop k H/\fin H) ∨
  (J.go k H/\∀x H',J.yld k H x H'->g x (Jq n none++cL σ js) H' fun σ2 H2 =>σ2[i]? = some none/\vd σ2 H2 fun J2 H3=>∃V:Nat->Nat->Hp->Prop,(∃m2,V 0 m2 H3)/\∀k2 m2 H,V k2 m2 H ->
   (J2.stop k2 H/\∃m',m'<m/\W (k+1) m' H) ∨
   (J2.go k2 H/\∀y H',J2.yld k2 H y H'->tk (σ2.set i (some y)) H' fun kk H4=>tv (σ2.set i (some y)) H4 fun z H5=>ck fun kvs key=>H5 D=some (.dK kvs)/\kk=kV key/\kvs.length<sizeLine/\∃m',m'<m2/\V (k2+1) m' (upd H5 D (.dK (putK kvs key z)))))
def y9 (wi:TI)(n:Nat)(js:List Nat)(g:TG)(vd:TI)(i:Nat)(tk tv:TE):TE:=fun σ H Q=>wi σ H fun J H1=>∀D,H1 D=none->wZ J n js g vd i tk tv σ D (upd H1 D (.dK [])) fun H2=>Q (.ref D) H2
section
variable {X:Cx}{kx vx t1 i1 t2 i2:Expr}{scope:Scope}{pos:Pos}{vd:TI}{i:Nat}{tk tv:TE}{pins:List (Addr×Obj)}{s:Shared}{σ:St}{H:Hp}{D:Addr}{fin:Hp->Prop}
theorem xr (G3:X.xe=fN)(cJ:X.calm=true)(u7:PI X t2 i2 vd)(Dg:PG X t2 (di i))(cC:PE X kx tk)(u6:PE X vx tv)(I:Inv X pins σ H s)(h0: σ[i]? = some none)
  (h:vd σ H fun J2 H3=>∃V:Nat->Nat->Hp->Prop,(∃m2,V 0 m2 H3)/\∀k2 m2 H,V k2 m2 H->(J2.stop k2 H/\fin H) ∨
   (J2.go k2 H/\∀y H',J2.yld k2 H y H'->tk (σ.set i (some y)) H' fun kk H4=>tv (σ.set i (some y)) H4 fun z H5=>ck fun kvs key=>H5 D=some (.dK kvs)/\kk=kV key/\kvs.length<sizeLine/\∃m',m'<m2/\V (k2+1) m' (upd H5 D (.dK (putK kvs key z)))))
  {R:Shared->Prop} (q:∀H' s',Inv X pins σ H' s'->fin H'->R s') :
  wpAny (model X.prog X.w) X.A (eval i2 X.env) (fun x s3=>wpAny (model X.prog X.w) X.A (pyIter x) (fun it2 s4=>
   codeAny (model X.prog X.w) X.A (.compStart (.DictComp kx vx [⟨t1,i1,[],0⟩,⟨t2,i2,[],0⟩] scope pos) 1 it2 (.ref D) X.env) (fun r s5=>match r with | .ok _=>R s5 | .error _=>False) s4) fN s3) fN s:=by
 have u7:=u7 s σ H _ I h
 have NO:=Dg
 have Oz:=cC
 have OL:=u6
 rw[G3] at u7
 refine aR u7 fun v s1 h1=>aR h1 fun Dk s2 h2 =>?_
 obtain⟨it,fp,tn,J,H2,e,I2,T,bG,f2,V,⟨m0,w0⟩,turn⟩:=h2
 subst e
 have fI:∀{H':Hp},(∀b∈fp,H' b=none)->∀b∈fp,eg X pins H' b:=fun hn b hb=>⟨hn b hb,(f2 b hb).2⟩
 have loop:∀t1',codeAny (model X.prog X.w) X.A (.compLoop (.DictComp kx vx [⟨t1,i1,[],0⟩,⟨t2,i2,[],0⟩] scope pos) 1 (.ref it) (.ref D) X.env) (fun r s5=>match r with | .ok _=>R s5 | .error _=>False) { s2 with toks:=t1' }:=by
  intro t1'
  refine oV (fun n s'=>∃k H',Inv X pins σ H' s'/\tn k s'.heap/\(∀b∈fp,H' b=none)/\V k n H') ?_ m0 ⟨0,H2,I2.tok _,bG,fun b hb=>(f2 b hb).1,w0⟩
  intro n s3
  refine ae.go ?_
  rintro k H3 I3 cR fr3 w3
  rcases turn k n H3 w3 with ⟨stop,qn⟩|⟨go,step⟩
  ·refine aR (T.done X rfl rfl rfl cJ k pins s3 σ H3 fN I3 (fI fr3) cR stop) fun r s4 hz_ =>?_
   refine ae.el hz_ _ ?_
   clear hz_
   rintro hr I4
   subst hr
   exact q H3 s4 I4 qn
  ·refine aR (T.item X rfl rfl rfl cJ k pins s3 σ H3 fN I3 (fI fr3) cR go) fun r s4 hz_ =>?_
   refine ae.el hz_ _ ?_
   clear hz_
   rintro u hr h4
   subst hr
   refine aR h4 fun _ s5 hz_ =>?_
   refine ae.el hz_ _ ?_
   clear hz_
   rintro x H5 I5 r5 y5 df fr5
   have yC:=I5.pinned (fI fr5) (T.obj _ _ df)
   have hg:=Dg s5 σ H5 x u (fun σ' H' =>σ' = σ.set i (some x)/\H'=H5) yC r5 ⟨rfl,rfl⟩
   rw[G3] at hg
   refine aR hg fun _ s6 hz_ =>?_
   refine ae.el hz_ _ ?_
   clear hz_
   rintro σ6 H6 I6 e6 e6'
   subst e6 e6'
   have hk:=cC s6 _ _ _ I6 (step x _ y5)
   rw[G3] at hk
   refine aR hk fun yv s8 hz_ =>?_
   refine ae.el hz_ _ ?_
   clear hz_
   rintro y H8 I8 r8 q8
   have hv:=u6 s8 _ _ _ I8 q8
   rw[G3] at hv
   refine aR hv fun zv s9 hz_ =>?_
   refine ae.el hz_ _ ?_
   clear hz_
   rintro z H9 I9 r9 q9
   refine ae.el (q9) _ ?_
   rintro kvs key eD ey hl m' rN w9
   subst ey
   refine lY I9 eD hl r8 r9 fun s10 I10 =>?_
   refine⟨m',rN,k+1,_,Inv.weak I10.cW (by rw[List.length_set]) fun j v hj =>?_,T.keep _ _ _ df fun b hb o e=>(I10.pin (b,o) (Jk _ (Jk _ (bJ hb e)))).1,fun b hb =>?_,w9⟩
   ·by_cases hji:j=i
    ·subst hji;rw[h0] at hj;cases hj
    ·rw[List.getElem?_set_ne (Ne.symm hji)];exact hj
   ·refine ae.el (T.obj _ _ df b hb) _ ?_
    rintro o e d
    exact(I10.pin (b,o) (Jk _ (Jk _ (bJ hb e)))).2.1
 exact oX (loop _) (T.self _ 0 _ _ _ bG (loop _))
end
theorem qi {X:Cx}{kx vx tg iter t2 i2:Expr}{vd:TI}{GC:Nat}{scope:Scope}{pos:Pos}{Nc Fc:List Str}{js:List Nat}{wi:TI}{g:TG}{tk tv:TE}{use:Option (Value->Sem Unit)}{QV:Value->Shared->Prop}
  (cJ:X.calm=true) (c:dC X scope Nc Fc js) (hi:PI X tg iter wi)
  (hg:∀cl C s H fp,PG (ff X Nc Fc scope cl C s H fp) tg g) (u7:∀cl C s H fp,PI (ff X Nc Fc scope cl C s H fp) t2 i2 vd) (Dg:∀cl C s H fp,PG (ff X Nc Fc scope cl C s H fp) t2 (di GC)) (cC:∀cl C s H fp,PE (ff X Nc Fc scope cl C s H fp) kx tk) (u6:∀cl C s H fp,PE (ff X Nc Fc scope cl C s H fp) vx tv) (gk:Gk Nc.length g)
  {pins:List (Addr×Obj)} {s:Shared} {σ:St} {H:Hp} {fin:Addr->Hp->Prop} (I:Inv X pins σ H s)
  (h:wi σ H fun J H1=>∀D,H1 D=none->wZ J Nc.length js g vd GC tk tv σ D (upd H1 D (.dK [])) (fin D))
  (behind:∀(C D:Addr) (m:Str->Option Value) (H2:Hp) (s2:Shared),Inv X pins σ H2 s2->s2.heap.Ns C m->eg X pins H2 C->fin D H2->compPost (model X.prog X.w) X.A X.xe use QV (.ref D) C (.ok .next) s2)
  (hs:∀x,foldedSetIterable iter X.env x=pure x) (zI:∀cl C s H fp x,foldedSetIterable i2 (ff X Nc Fc scope cl C s H fp).env x=pure x) :
  wpAny (model X.prog X.w) X.A (comprehension (.DictComp kx vx [⟨tg,iter,[],0⟩,⟨t2,i2,[],0⟩] scope pos) scope X.env (firstIterPos [⟨tg,iter,[],0⟩,⟨t2,i2,[],0⟩] pos) newDict false (eval iter X.env) use) QV X.xe s:=by
 obtain⟨cl,hclos,dk,g6⟩:=iq (scope:=scope) (env:=X.env) fun y hy hf=>I.ok.has y.1 (c.free y hy hf)
 refine wpAny_comprehension_free (use:=use) rfl hs hclos c.kind c.names ?_
 refine aR (hi s σ H _ I h) fun v s1 h1=>aR h1 fun Dk s2 h2 =>?_
 obtain⟨it,fp,tn,J,H2,e,I2,T,bG,f2,all⟩:=h2
 subst e
 refine wpAny_newObj_type (wpAny_newFunctionEnv c.nocell (by intro y hy;simp at hy) (fun h1 hns1 hsb1 =>?_) c.kind)
 dsimp only at hns1 hsb1 ⊢
 have yR:H2 s2.heap.objs.size=none:=I2.aZ.fresh (Jd _)
 have xg:=I2.laid (a:=s2.heap.objs.size) (o := .dK []) (h':=s2.heap.push { cls := .type "dict",data := .dict #[] }) (t':=s2.toks) (fun _ _ q=>Je _ q) (Jd _) (iD s2.heap I2.big)
 obtain⟨W,⟨m0,w0⟩,turn⟩:=all _ yR
 have Dx:∀b∈fp,∃o,s2.heap.get? b=some o:=fun b hb=>let ⟨o,e,_⟩:=T.obj 0 _ bG b hb; ⟨o,e⟩
 have lr:∀b∈fp,b<s2.heap.objs.size:=fun b hb=>let ⟨o,e⟩:=Dx b hb;Jo e
 generalize hG:s2.heap.push { cls := .type "dict",dict:=none,data := .dict #[] } = G at hns1 hsb1 xg ⊢
 have toG:∀b o,s2.heap.get? b=some o->G.get? b=some o:=fun b o e=>hG▸Je _ e
 have hC:G.objs.size=s2.heap.objs.size+1:=by rw[<-hG,Wx]
 have old:∀b o,G.get? b=some o->h1.get? b=some o:=fun b o e=>
  hsb1.extBut b o (cq (Jo e) (Jd _)) (Je _ e)
 let D:Addr:=s2.heap.objs.size
 let s2':Shared:={ s2 with heap:=G,toks:=s2.toks }
 let H2':Hp:=upd H2 D (.dK [])
 have Bo:∀b∈fp,eg X pins H2' b:=fun b hb=>by
  obtain⟨a1,a2⟩:=f2 b hb
  refine⟨?_,a2⟩
  show upd H2 D (.dK []) b=none
  rw[aq (J8 (lr b hb))];exact a1
 have fo:∀b∈fp,∃o,s2'.heap.get? b=some o:=fun b hb=>let ⟨o,e⟩:=Dx b hb; ⟨o,toG b o e⟩
 have LQ:∀b∈fp,b<G.objs.size:=fun b hb=>by have:=lr b hb;rw[hC];exact Wr this
 let Xc:Cx:=ff X Nc Fc scope cl G.objs.size s2' H2' fp
 have fI:∀{H':Hp},(∀b∈fp,H' b=none)->∀b∈fp,eg Xc [] H' b:=fun{H'} hn b hb=>by
  refine⟨hn b hb,?_,?_,.inl hb,fun x a e =>?_,fun p hq =>?_⟩
  ·exact cq (LQ b hb) (Jd _)
  ·exact(ko xg c dk g6 (Jd _) Bo fo).exfs b hb
  ·exact(f2 b hb).2.2.2.2.1 x a (dk _ _ e)
  ·have q:p∈([]:List (Addr×Obj))++[]:=hq
   simp at q
 have loop:∀t1,codeAny (model X.prog X.w) X.A (.compLoop (.DictComp kx vx [⟨tg,iter,[],0⟩,⟨t2,i2,[],0⟩] scope pos) 0 (.ref it) (.ref s2.heap.objs.size) (compEnvC scope cl G.objs.size X.env))
   (compPost (model X.prog X.w) X.A X.xe use QV (.ref s2.heap.objs.size) G.objs.size) { s2 with heap:=h1,toks:=t1 }:=by
  intro t1
  refine pj (zI cl G.objs.size s2' H2' fp) (fun n s'=>∃i H',Inv Xc [] (Jq Nc.length none++cL σ js) H' s'/\tn i s'.heap/\(∀b∈fp,H' b=none)/\W i n H') ?_ m0
   ⟨0,H2',qg xg c dk g6 (Jd _) Bo fo old hns1,T.keep _ _ _ bG (fun b hb o e=>old b o (toG b o e)),fun b hb=>(Bo b hb).1,w0⟩
  intro n s3
  refine ae.go ?_
  rintro i H3 I3 cR fr3 w3
  rcases turn i n H3 w3 with ⟨stop,qn⟩|⟨go,step⟩
  ·refine aR (T.done Xc rfl rfl rfl cJ i _ s3 _ H3 fN I3 (fI fr3) cR stop) fun r s4 hz_ =>?_
   refine ae.el hz_ _ ?_
   clear hz_
   rintro hr I4
   subst hr
   show compPost _ _ _ _ _ _ _ _ _
   refine ae.el (I4.loc) _ ?_
   rintro mC hmC _
   have D5:H3 G.objs.size=none:=I4.free
   have u:Un (i8 X.stack) fp H2' H3 G s4.heap:=I4.base
   have qo:∀b∈fp,(b∈X.ex∨X.s₀.heap.objs.size<=b)/\b≠X.env.locals/\(∀x c,X.env.cells.lookup x=some c->c≠b)/\∀p∈X.pn++pins,p.1≠b:=fun b hb=>
    ⟨(f2 b hb).2.2.2.1,(f2 b hb).2.1,(f2 b hb).2.2.2.2.1,(f2 b hb).2.2.2.2.2⟩
   have Ek:s4.os=s2'.os:=I4.os
   have J4:Inv X pins σ H3 s4:=xg.pF (H':=H3) Ek u I4.aZ I4.bare qo
   exact behind G.objs.size D mC H3 s4 J4 hmC (xg.kj (Jd _) D5) qn
  ·refine aR (T.item Xc rfl rfl rfl cJ i _ s3 _ H3 fN I3 (fI fr3) cR go) fun r s4 hz_ =>?_
   refine ae.el hz_ _ ?_
   clear hz_
   rintro u hr h4
   subst hr
   show wpAny _ _ (letOwnedTupleGo tg (.ref it) u) _ _ _
   refine aR h4 fun _ s5 hz_ =>?_
   refine ae.el hz_ _ ?_
   clear hz_
   rintro x H5 I5 r5 y5 df fr5
   have yC:=I5.pinned (fI fr5) (T.obj _ _ df)
   refine aR (hg cl G.objs.size s2' H2' fp s5 _ H5 x u _ yC r5 (gk _ _ _ _ (step x H5 y5))) fun _ s6 ⟨σ6,H6,I6,⟨q60,q6⟩,kσ,kl⟩=>?_
   have later:∀{σ':St} {H':Hp} {s':Shared},Inv Xc ([]++dS fp s5.heap) σ' H' s'->tn (i+1) s'.heap/\∀b∈fp,H' b=none:=fun{σ' H' s'} Iz=>by
    refine⟨T.keep _ _ _ df fun b hb o e=>(Iz.pin (b,o) (Jk _ (Jk _ (bJ hb e)))).1,fun b hb =>?_⟩
    refine ae.el (T.obj _ _ df b hb) _ ?_
    rintro o e d
    exact(Iz.pin (b,o) (Jk _ (Jk _ (bJ hb e)))).2.1
   have back:∀{pl:List (Addr×Obj)} {H':Hp} {s':Shared},Inv Xc pl σ6 H' s'->Inv Xc pl (Jq Nc.length none++cL σ js) H' s':=fun{pl H' s'} Iz=>by
    refine Iz.weak (by rw[<-kl]) fun j v hj =>?_
    by_cases hn:j<Nc.length
    ·rw[Ut (by simpa using hn),Yz] at hj
     split at hj<;>cases hj
    ·rw[kσ j (by omega)];exact hj
   refine xr (X:=Xc) rfl cJ (u7 cl G.objs.size s2' H2' fp) (Dg cl G.objs.size s2' H2' fp) (cC cl G.objs.size s2' H2' fp) (u6 cl G.objs.size s2' H2' fp) I6 q60 q6 fun H7 s7 I7 q7 =>?_
   refine ae.el (q7) _ ?_
   rintro m' rN w7
   obtain⟨l1,l2⟩:=later I7
   exact⟨m',rN,i+1,H7,back I7.cW,l1,l2,w7⟩
 exact codeAny_compStart_dict (loop _) (T.self _ 0 _ _ _ (T.keep _ _ _ bG fun b hb o e=>old b o (toG b o e)) (loop _))
theorem tU {X:Cx}{kx vx tg iter t2 i2:Expr}{vd:TI}{GC:Nat}{scope:Scope}{pos:Pos}{Nc Fc:List Str}{js:List Nat}{wi:TI}{g:TG}{tk tv:TE}
  (cJ:X.calm=true) (c:dC X scope Nc Fc js) (hi:PI X tg iter wi) (gk:Gk Nc.length g)
  (hg:∀cl C s H fp,PG (ff X Nc Fc scope cl C s H fp) tg g) (u7:∀cl C s H fp,PI (ff X Nc Fc scope cl C s H fp) t2 i2 vd) (Dg:∀cl C s H fp,PG (ff X Nc Fc scope cl C s H fp) t2 (di GC)) (cC:∀cl C s H fp,PE (ff X Nc Fc scope cl C s H fp) kx tk) (u6:∀cl C s H fp,PE (ff X Nc Fc scope cl C s H fp) vx tv)
  (hs:∀x,foldedSetIterable iter X.env x=pure x:=by intro _;rfl) (zI:∀cl C s H fp x,foldedSetIterable i2 (ff X Nc Fc scope cl C s H fp).env x=pure x:=by intros;rfl) :
  PE X (.DictComp kx vx [⟨tg,iter,[],0⟩,⟨t2,i2,[],0⟩] scope pos) (y9 wi Nc.length js g vd GC tk tv):=by
 intro pins s σ H Q I h
 rw[arm_eval_DictComp]
 refine qi (use:=none) (fin:=fun D H2=>Q (.ref D) H2) cJ c hi hg u7 Dg cC u6 gk I h (fun C D m H2 s2 I2 hm hC q =>?_) hs zI
 refine⟨m,hm,fun h' hs' =>?_⟩
 exact⟨.ref D,_,I2.turned (it:=C) (t':=s2.toks) (fun b o hb e=>hs'.extBut b o hb e) hC.1 (hC.2.1) hC.2.2.2.1 hC.2.2.2.2.1 hC.2.2.2.2.2,rfl,q⟩
structure AQ (prog:Program)(w:World)(A:Around)(it S:Addr)(fp:Addr->Prop)(n:Nat)(P:Nat->Value->Heap->Prop)(R:Value->Value->Prop)(St:Nat->Heap->Prop):Prop where
 sfp:¬fp S
 item:∀i (s:Shared) (Q:Option Value->Shared->Prop) (E:Value->Shared->Prop),i<n->St i s.heap->S<s.heap.objs.size ->
  (∀v h' tk,Keeps s.heap h' fp->St (i+1) h'->P i v h'->(∀j u,P j u s.heap->R u v)->Q (some v) { s with heap:=h',toks:=tk })->wpAny (model prog w) A (pyNext (.ref it)) Q E s
 stop:∀(s:Shared) (Q:Option Value->Shared->Prop) (E:Value->Shared->Prop),St n s.heap->S<s.heap.objs.size->(∀h' tk,Keeps s.heap h' fp->Q none { s with heap:=h',toks:=tk })->wpAny (model prog w) A (pyNext (.ref it)) Q E s
 keepS:∀i h h',St i h->Keeps h h' (· = S)->St i h'
 keepP:∀j v h h',P j v h->Keeps h h' (fun b=>fp b∨b=S)->P j v h'
section
variable {prog:Program}{w:World}{A:Around}{it S:Addr}{fp:Addr->Prop}{n:Nat}{P:Nat->Value->Heap->Prop}{R:Value->Value->Prop}{St:Nat->Heap->Prop}
theorem kc (Fd:AQ prog w A.in1 it S fp n P R St)(hn:n<=sizeLine){s:Shared}{Z:Result->Shared->Prop}{res:Value}{g:Heap}(fin:j0 g S fp n P R s (Z (.ok (.ret res)))):
  ∀(k i:Nat) (h:Heap) (tk:Nat) (acc:Array Value) (c:Nat),i+k=n->St i h->pe h S i P R acc c->Keeps g h (fun b=>fp b∨b=S) ->
   codeAny (model prog w) A (.builtin "list.extend.loop" ⟨[.ref S,.ref it,res],[]⟩) Z { s with heap:=h,toks:=tk }
 | 0,i,h,tk,acc,c,hk,hR,G,kp=>by
  have e:i=n:=by omega
  subst e
  refine codeAny_builtin PySem.F.entry_extend_loop ?_
  rw[Around.under_plainId PySem.F.plain_extend_loop _]
  refine wpAny_bind (Fd.stop { s with heap:=h,toks:=tk } _ _ hR (Jo G.ob) fun h' tk' k'=>wpAny_pure ?_)
  exact fin h' tk' acc c (fun b o nb q=>k' b o (fun z=>nb (.inl z)) (kp b o nb q)) ⟨k' _ _ Fd.sfp G.ob,G.sz,G.pw,fun j v e=>Fd.keepP _ _ _ _ (G.all j v e) fun b o nb q=>k' b o (fun z=>nb (.inl z)) q⟩
 | k+1,i,h,tk,acc,c,hk,hR,G,kp=>by
  refine codeAny_builtin PySem.F.entry_extend_loop ?_
  rw[Around.under_plainId PySem.F.plain_extend_loop _]
  refine wpAny_bind (Fd.item i { s with heap:=h,toks:=tk } _ _ (by omega) hR (Jo G.ob) fun v h' tk' k' aD pv rv =>?_)
  have CH:=k' _ _ Fd.sfp G.ob
  have other:Keeps h' (h'.update S (Obj.mapSeq (·.push v))) (· = S):=fun b o nb q=>(Us _ _ (Ne.symm nb)).trans q
  have k2:Keeps h (h'.update S (Obj.mapSeq (·.push v))) (fun b=>fp b∨b=S):=fun b o nb q=>other b o (fun z=>nb (.inr z)) (k' b o (fun z=>nb (.inl z)) q)
  have sz:=G.sz
  refine wpAny_bind (wpAny_updateSeq CH rfl (wpAny_pure ⟨plainId_quiet PySem.F.plain_extend_loop _,?_⟩) (by rw[sz];omega) (by show(acc.push v).size<=sizeLine+1;rw[Wn,sz];omega))
  refine kc Fd hn fin k (i+1) _ tk' (acc.push v) _ (by omega) (Fd.keepS _ _ _ aD other) ⟨Uu _ CH rfl,by rw[Wn,sz],?_,fun j u e =>?_⟩ (fun b o nb q=>k2 b o nb (kp b o nb q))
  ·rw[Yl]
   refine Ue.mpr ⟨G.pw,List.pairwise_singleton _ _,fun a ha b hb =>?_⟩
   obtain⟨j,hj⟩:=Yb.mp ha
   rw[Jg.mp hb]
   exact rv j a (G.all j a (by simpa using hj))
  ·by_cases hj:j<i
   ·rw[Array.getElem?_push_lt (by omega)] at e
    exact Fd.keepP _ _ _ _ (G.all j u (by rw[Ub (by omega)];exact e)) k2
   ·have uY:j=i:=by
     have:=(Y3.mp e).1
     rw[Wn] at this
     omega
    subst uY
    have e':(acc.push v)[acc.size]? = some u:=by rw[sz];exact e
    rw[Array.getElem?_push_size] at e'
    cases e'
    exact Fd.keepP _ _ _ _ pv fun b o nb q=>other b o (fun z=>nb (.inr z)) q
end
theorem du:Slot "set_iterator" "__next__" "set_iterator.__next__":=by
 refine .of (owner := "set_iterator") (n := "__next__") ?_ ?_ ?_ ?_ ?_ ?_
 ·rw[typeLookup_type,builtinLookup_eq_fast];kernel_rfl
 ·decide +kernel
 ·decide +kernel
 ·decide +kernel
 ·first
   | exact .inl (by decide +kernel)
   | exact .inr (by decide +kernel)
 ·rw[isSubtype_type];kernel_rfl
theorem iZ:entryFor table "set_iterator.__next__" = some Builtin.«set_iterator.__next__»:=entryFor_of_fast (by kernel_rfl)
theorem jz (a:Value):argsOk "set_iterator.__next__" ⟨[a],[]⟩:=by
 unfold argsOk
 rw[signature?_of (id := "set_iterator.__next__") (n := "__txen__".toList) (o := "rotareti_tes".toList) (rows:=Manifest.sig_set_iterator) (by kernel_rfl) (by kernel_rfl)]
 kernel_rfl
theorem j6:entryFor table "set.__iter__" = some Builtin.«frozenset.__iter__»:=entryFor_alias (id' := "frozenset.__iter__") (by kernel_rfl) rfl (by decide +kernel) (by kernel_rfl)
theorem iz {α:Type}:∀{l:List α} {i:Nat} (h:i<l.length),Ya (l[i]::l.eraseIdx i) l
 | x::l,0,h=>Ya.refl _
 | x::l,i+1,h=>by
  rw[List.eraseIdx_cons_succ,List.getElem_cons_succ]
  exact(Ya.swap _ _ _).trans ((iz (Nat.lt_of_succ_lt_succ h)).cons x)
theorem sF {α:Type}(next:Nat->Nat):∀(n k:Nat) (left:List α) (out:Array α),left.length=n->Ya (pickOrder.go next n k left out).toList (out.toList++left)
 | 0,k,left,out,h=>by
  unfold pickOrder.go
  rw[U7 h,Uh]
 | n+1,k,left,out,h=>by
  unfold pickOrder.go
  have hp:next k%left.length<left.length:=Nat.mod_lt _ (by omega)
  rw[Jf hp]
  dsimp only
  refine(sF next n (k+1) _ _ (by rw[List.length_eraseIdx,if_pos hp];omega)).trans ?_
  rw[Yl,Ug]
  refine Ya.append_left _ ?_
  rw[List.singleton_append]
  exact iz hp
theorem t7 {α:Type}(next:Nat->Nat)(xs:Array α):Ya (pickOrder next xs).toList xs.toList:=sF next _ 0 _ #[] rfl
theorem qw {M:Model}{A:Around}{E:Value->Shared->Prop}{α:Type}:∀(n:Nat) (xs:List α) (s:Shared) (Q:List α->Shared->Prop),xs.length=n ->
  (∀ys d,Ya ys xs->Q ys { s with drawn:=d })->wpAny M A (drawOrder n xs) Q E s:=by
 intro n
 induction n with
 | zero=>
  intro xs s Q h q
  unfold drawOrder
  exact wpAny_pure (q [] s.drawn (by rw[U7 h]))
 | succ n ih=>
  intro xs s Q h q
  cases xs with
  | nil=>cases h
  | cons x xs=>
   unfold drawOrder
   refine wpAny_bind (fun Γ p hΓ =>?_)
   unfold choose
   rw[Sem.wp_choose]
   refine⟨by simp,?_⟩
   have hp:M.w.draws .order (s.drawn.get .order)%(x::xs).length<(x::xs).length:=Nat.mod_lt _ (by simp)
   generalize M.w.draws .order (s.drawn.get .order)%(x::xs).length=i at hp ⊢
   rw[Sem.wp_pure]
   dsimp only
   rw[Jf hp]
   refine wpAny_bind (ih _ _ _ (by rw[List.length_eraseIdx,if_pos hp];omega) fun ys d hy=>wpAny_pure (q _ d ?_))
   exact(hy.cons _).trans (iz hp)
noncomputable def CY (w:World):Bool:=w.params.followText "set-order"
inductive xN (w:World)(a:Addr)(es:Array (Int×Value))(ep:Nat)(t:SetTable)(lo i:Nat)(h:Heap)(it:Addr):Value->List Value->Prop
 | text (b:CY w=true):xN w a es ep t lo i h it (.int 0 0) ((pickOrder (w.params.setOrder a ep) es).toList.map (·.2))
 | places (b:CY w=false) (d:(!t.plain&&decide (es.size>1))=false) (l:t.led=true) (z:Nat) (c:Cut t.place z i):xN w a es ep t lo i h it (.int (z:Int) 0) (es.toList.map (·.2))
 | drawn (ys:List Nat) (p:Ya ys (Wf es.size)) (tp:Addr) (low:lo<=tp) (ne:tp≠it) (o:Obj) (n:Nat) (e:h.get? tp=some o) (d:o.data = .seq (ys.map fun(k:Nat)=>rawInt k).toArray n):xN w a es ep t lo i h it (.ref tp) (ys.map fun k=>(es.toList.map (·.2)).getD k .none)
structure AA (w:World)(a:Addr)(es:Array (Int×Value))(ep:Nat)(t:SetTable)(lo:Nat)(vals:List Value)(it:Addr)(i:Nat)(h:Heap):Prop where
 set:∃o,h.get? a=some o/\o.data = .set es ep t
 fit:t.fits es.size=true
 good:cK t
 ne:a≠it
 low:lo<=it
 ex:∃first,xN w a es ep t lo i h it first vals/\h.get? it=some { cls := .type "set_iterator",data := .fields #[first,.int i 0,.ref a,.int es.size 0,.int ep 0] }
theorem AA.keep {w:World}{a:Addr}{es:Array (Int×Value)}{ep:Nat}{t:SetTable}{lo:Nat}{vals:List Value}{it:Addr}{i:Nat}{h h':Heap}(x:AA w a es ep t lo vals it i h)(k:∀b o,h.get? b=some o->(b=a∨lo<=b)->h'.get? b=some o):AA w a es ep t lo vals it i h':=by
 obtain⟨⟨o,e1,e2⟩,ft,g,ne,low,first,so,e3⟩:=x
 refine⟨⟨o,k _ _ e1 (.inl rfl),e2⟩,ft,g,ne,low,first,?_,k _ _ e3 (.inr low)⟩
 cases so with
 | text b=>exact .text b
 | places b d l z c=>exact .places b d l z c
 | drawn ys p tp tl ne o n e d=>exact .drawn ys p tp tl ne o n (k _ _ e (.inr tl)) d
section
variable {prog:Program}{w:World}{A:Around}{E:Value->Shared->Prop}{s:Shared}{a:Addr}{es:Array (Int×Value)}{ep:Nat}{t:SetTable}{o:Obj}{lo:Nat}
theorem wK {Q:Value->Shared->Prop}(ho:s.heap.get? a=some o)(hx:o.ExactSet)(hd:o.data = .set es ep t)(hf:t.fits es.size=true)(g:cK t)(l:CY w=false->t.led=true)(hz:es.size<=sizeLine)
  (fin:∀it h' d vals,vals.length=es.size->Ya vals (es.toList.map (·.2))->s.heap.objs.size<=it->(∀b o,s.heap.get? b=some o->h'.get? b=some o)->AA w a es ep t s.heap.objs.size vals it 0 h'->Q (.ref it) { s with heap:=h',drawn:=d }) :
  wpAny (model prog w) A (pyIter (.ref a)) Q E s:=by
 have hT:s.TypeIs (.ref a) "set":=⟨o,ho,hx.1⟩
 have low:a<s.heap.objs.size:=Jo ho
 refine wpAny_pyIter_slot hT F.slot_set_iter (wpAny_call_entry F.slot_set_iter hT j6 ?_ (F.args_set_iter_1 _))
 unfold Builtin.«frozenset.__iter__» Builtin.Frozenset.slot0 slotArgs Builtin.Frozenset.addrOf Builtin.Frozenset.sizeOf setEntries setDrawn setEpoch setsByText
 simp -iota only [List.isEmpty_nil,Bool.not_true,Ua, ↓reduceIte,bind_assoc,Yx,bne_self_eq_false]
 dsimp only
 try simp -iota only [bind_assoc,Ua, ↓reduceIte]
 refine wpAny_bind (wpAny_pure (wpAny_bind (wpAny_pure (wpAny_bind (wpAny_setState_of ho hd hf (wpAny_bind (wpAny_pure (wpAny_bind (wpAny_pure (wpAny_bind (wpAny_setState_of ho hd hf ?_)))))))))))
 refine wpAny_bind (wpAny_askSetting (wpAny_bind (wpAny_pure (wpAny_bind (wpAny_pure ?_)))))
 have last:∀(s1:Shared) (d:Drawn) (first:Value) (vals:List Value),s1.drawn=d->s1.gens=s.gens->s1.toks=s.toks->s1.os=s.os->(∀b o,s.heap.get? b=some o->s1.heap.get? b=some o)->s.heap.objs.size<=s1.heap.objs.size->vals.length=es.size->Ya vals (es.toList.map (·.2)) ->
   (∀h' it,s1.heap.objs.size<=it->(∀b o,s1.heap.get? b=some o->h'.get? b=some o)->xN w a es ep t s.heap.objs.size 0 h' it first vals) ->
   wpAny (model prog w) A.in1 (do
    let x <-setState a
    let y <-pure x.2.1
    let z <-newFields "set_iterator" [first,rawInt 0,.ref a,rawInt es.size,rawInt y]
    ret z) (fun fin s'=>∃v,fin = .done (.ret v)/\∃T' r,s'.TypeIs v T'/\typeLookup (.type T') (Str.ofString "__next__")=pure (some r)/\Q v s') E s1:=by
  intro s1 d first vals e1 e2 e3 e4 k1 z1 hl hp so
  refine wpAny_bind (wpAny_setState_of (k1 _ _ ho) hd hf (wpAny_bind (wpAny_pure ?_)))
  unfold newFields
  refine wpAny_bind (wpAny_newObj_type (wpAny_pure ?_))
  refine⟨_,rfl, "set_iterator",_,⟨_,Jv _ rfl,rfl⟩,du.lookup,?_⟩
  have k2:∀b o,s1.heap.get? b=some o->(s1.heap.push { cls := .type "set_iterator",data := .fields [first,rawInt 0,.ref a,rawInt es.size,rawInt ep].toArray }).get? b=some o:=fun b o x=>Je _ x
  have q:=fin s1.heap.objs.size (s1.heap.push { cls := .type "set_iterator",data := .fields [first,rawInt 0,.ref a,rawInt es.size,rawInt ep].toArray }) d vals hl hp z1 (fun b o x=>k2 b o (k1 b o x)) ⟨⟨o,k2 _ _ (k1 _ _ ho),hd⟩,hf,g,J8 (J3 low z1),z1,first,so _ _ (Jd _) k2,Jv _ rfl⟩
  subst e1
  rw[<-e2,<-e3,<-e4] at q
  exact q
 have lv:(es.toList.map (·.2)).length=es.size:=by rw[Ja,Jw]
 cases hb:CY w with
 | true=>
  have C5:w.params.followText "set-order" = true:=hb
  refine wpAny_ite ?_
  rw[if_neg (by show ¬((!w.params.followText "set-order" && _)=true);rw[C5];exact Jm)]
  refine wpAny_bind (wpAny_pure ?_)
  have pm:=t7 (w.params.setOrder a ep) es
  exact last s s.drawn _ _ rfl rfl rfl rfl (fun _ _ x=>x) (Jd _) (by rw[Ja,pm.length_eq,Jw]) (pm.map _) fun h' it _ _ =>.text hb
 | false=>
  have C5:w.params.followText "set-order" = false:=hb
  refine wpAny_ite ?_
  cases hc:(!t.plain&&decide (es.size>1)) with
  | false=>
   rw[if_neg (by show ¬((!w.params.followText "set-order" && (!t.plain&&decide (es.size>1)))=true);rw[C5,hc];exact Jm)]
   refine wpAny_bind (wpAny_pure ?_)
   exact last s s.drawn _ _ rfl rfl rfl rfl (fun _ _ x=>x) (Jd _) lv (Ya.refl _) fun h' it _ _ =>.places hb hc (l hb) 0 ⟨Uq _,fun i _ z=>absurd z (Nat.not_lt_zero _),fun i _ _=>Uq _⟩
  | true=>
   rw[if_pos (by show(!w.params.followText "set-order" && (!t.plain&&decide (es.size>1)))=true;rw[C5,hc];rfl)]
   refine wpAny_bind (qw _ _ _ _ Yt fun ys d hy =>?_)
   have D6:ys.length=es.size:=by rw[hy.length_eq,Yt]
   refine wpAny_bind (wpAny_newTuple ?_ (by rw[Ja,D6];exact hz))
   have rm:Ya (ys.map fun k=>(es.toList.map (·.2)).getD k .none) (es.toList.map (·.2)):=by
    refine(hy.map _).trans ?_
    have:(Wf es.size).map (fun k=>(es.toList.map (·.2)).getD k .none)=es.toList.map (·.2):=by
     refine List.ext_getElem (by rw[Ja,Yt,lv]) fun i h1 h2 =>?_
     rw[Yf,List.getElem_range,Wj,Jf h2];rfl
    rw[this]
   refine last { s with heap:=s.heap.push { cls := .type "tuple",data := .seq (ys.map fun(i:Nat)=>rawInt i).toArray },drawn:=d } d _ _ rfl rfl rfl rfl (fun b o x=>Je _ x) (by show _<=(s.heap.push _).objs.size;rw[Wx];exact Y0 _) (by rw[Ja,D6]) rm fun h' it hit k' =>?_
   refine .drawn ys hy _ (Jd _) ?_ _ 0 (k' _ _ (Jv _ rfl)) rfl
   have hit:(s.heap.push { cls := .type "tuple",data := .seq (ys.map fun(i:Nat)=>rawInt i).toArray }).objs.size<=it:=hit
   rw[Wx] at hit
   exact J8 hit
theorem mj {Q:Array (Int×Value)->Shared->Prop}(b:CY w=true)(ho:s.heap.get? a=some o)(hd:o.data = .set es ep t)(hf:t.fits es.size=true)(q:Q (pickOrder (w.params.setOrder a ep) es) s):wpAny (model prog w) A (setWalk a) Q E s:=by
 unfold setWalk setsByText
 have b':w.params.followText "set-order" = true:=b
 refine wpAny_bind (wpAny_setState_of ho hd hf (wpAny_bind (wpAny_bind (wpAny_askSetting (wpAny_pure ?_)))))
 refine wpAny_ite ?_
 rw[if_pos (show({ program:=(model prog w).prog,params:=(model prog w).w.params }:Setting).params.followText "set-order" = true from b')]
 exact wpAny_bind (wpAny_askSetting (wpAny_pure q))
theorem xU {vals:List Value}{it:Addr}{i:Nat}{v:Value}{Q:Option Value->Shared->Prop}(st:AA w a es ep t lo vals it i s.heap)(hv:vals[i]? = some v)
  (fin:∀h',(∀b o,b≠it->s.heap.get? b=some o->h'.get? b=some o)->h'.objs.size=s.heap.objs.size->AA w a es ep t lo vals it (i+1) h'->Q (some v) { s with heap:=h' }) :
  wpAny (model prog w) A (pyNext (.ref it)) Q E s:=by
 obtain⟨⟨o,ho,hd⟩,hf,g,ne,low,first,so,e⟩:=st
 have hT:s.TypeIs (.ref it) "set_iterator":=⟨_,e,rfl⟩
 refine wpAny_bind (wpAny_attempt (wpAny_callSpecial?_slot (name:=Str.ofString "__next__") hT du (wpAny_call_entry du hT iZ ?_ (jz _))))
 unfold Builtin.«set_iterator.__next__» slotArgs setEntries setNext setsByText
 simp -iota only [List.isEmpty_nil,Bool.not_true,Ua, ↓reduceIte,bind_assoc,Yx,bne_self_eq_false]
 dsimp only
 try simp -iota only [bind_assoc,Ua, ↓reduceIte]
 refine wpAny_bind (wpAny_pure (wpAny_bind (wpAny_fieldsOf e rfl ?_)))
 dsimp only
 refine wpAny_bind (wpAny_setState_of ho hd hf (wpAny_bind (wpAny_pure ?_)))
 refine wpAny_ite ?_
 rw[if_neg (by simp)]
 cases so with
 | text b=>
  have b':w.params.followText "set-order" = true:=b
  refine wpAny_bind (wpAny_setState_of ho hd hf (wpAny_bind (wpAny_askSetting (wpAny_bind (wpAny_pure ?_)))))
  refine wpAny_bind (wpAny_ite ?_)
  rw[if_pos (show({ program:=(model prog w).prog,params:=(model prog w).w.params }:Setting).params.followText "set-order" = true from b')]
  refine wpAny_ite ?_
  rw[if_neg (by simp)]
  refine wpAny_bind (mj b ho hd hf (wpAny_pure ?_))
  have hx:((pickOrder (w.params.setOrder a ep) es)[(i:Int).toNat]?).map (fun e=>(e.2,(0:Int).toNat))=some (v,0):=by
   rw[Uz,<-Uk]
   rw[Jj] at hv
   cases q:(pickOrder (w.params.setOrder a ep) es).toList[i]? with
   | none=>rw[q] at hv;cases hv
   | some y=>rw[q] at hv;cases hv;rfl
  rw[hx]
  refine wpAny_bind (wpAny_setField_rec e (by simp) fun h1 e1 s1=>wpAny_bind (wpAny_setField_rec (s:={ s with heap:=h1 }) e1 (by simp) fun h2 e2 s2 =>?_))
  refine wpAny_pure ⟨_,rfl,wpAny_pure (fin h2 (fun b o nb x=>s2.extBut b o nb (s1.extBut b o nb x)) (s2.1.trans s1.1) ⟨⟨o,s2.extBut _ _ ne (s1.extBut _ _ ne ho),hd⟩,hf,g,ne,low,_,.text b,?_⟩)⟩
  simpa [rawInt] using e2
 | places b d l z c=>
  have b':w.params.followText "set-order" = false:=b
  have MV:t.place.size=es.size:=by
   have:=hf
   simp only[SetTable.fits,Ys,beq_iff_eq] at this
   exact this.1
  have hi:i<es.size:=by
   have:=(Ju.mp hv).1
   rwa[Ja,Jw] at this
  refine wpAny_bind (wpAny_setState_of ho hd hf (wpAny_bind (wpAny_askSetting (wpAny_bind (wpAny_pure ?_)))))
  refine wpAny_bind (wpAny_ite ?_)
  rw[if_neg (by show ¬(w.params.followText "set-order" = true);rw[b'];exact Jm)]
  refine wpAny_ite ?_
  rw[if_neg (by show ¬((!t.plain&&decide (es.size>1))=true);rw[d];exact Jm)]
  refine wpAny_bind ?_
  show wpAny _ _ (if (!t.led && !es.isEmpty)=true then unsupported "set:maker-not-led" else pure ()) _ _ _
  rw[l]
  refine wpAny_pure ?_
  have Em:SetTable.below t.place ((z:Int)).toNat=i:=by
   rw[Uz]
   have c2:=e9 g.2 z
   have h1:¬SetTable.below t.place z<i:=fun q=>by
    have hs:SetTable.below t.place z<t.place.size:=by omega
    have:=c2.hi _ hs (Jd _)
    have:=c.lo _ hs q
    omega
   have h2:¬i<SetTable.below t.place z:=fun q=>by
    have hs:i<t.place.size:=by omega
    have:=c2.lo _ hs q
    have:=c.hi _ hs (Jd _)
    omega
   omega
  refine wpAny_pure ?_
  dsimp only
  rw[Em,Ub hi,Ub (show i<t.place.size by omega)]
  have M5:es[i].2=v:=by
   rw[Jj,Uk,Ub hi] at hv
   injection hv
  dsimp only
  rw[M5]
  refine wpAny_bind (wpAny_setField_rec e (by simp) fun h1 e1 s1=>wpAny_bind (wpAny_setField_rec (s:={ s with heap:=h1 }) e1 (by simp) fun h2 e2 s2 =>?_))
  refine wpAny_pure ⟨_,rfl,wpAny_pure (fin h2 (fun b o nb x=>s2.extBut b o nb (s1.extBut b o nb x)) (s2.1.trans s1.1) ⟨⟨o,s2.extBut _ _ ne (s1.extBut _ _ ne ho),hd⟩,hf,g,ne,low,_,.places b d l (t.place[i]+1) ?_,?_⟩)⟩
  ·have c3:=e9 g.2 (t.place[i]+1)
   rw[Cut.next g.2 (by omega) c3] at c3
   exact c3
  ·simpa [rawInt] using e2
 | drawn ys p tp tl nt ot n et dt=>
  dsimp only
  unfold seqItems?
  refine wpAny_bind (wpAny_bind (wpAny_load et ?_))
  rw[dt]
  refine wpAny_pure ?_
  dsimp only
  rw[Jj] at hv
  cases hy:ys[i]? with
  | none=>rw[hy] at hv;cases hv
  | some y=>
   rw[hy] at hv
   injection hv with hv
   have MH:y<es.size:=Y9.mp (p.mem_iff.mp (Wo hy))
   have mH:(ys.map fun(k:Nat)=>rawInt k).toArray[(i:Int).toNat]? = some (rawInt y):=by
    rw[Uz,List.getElem?_toArray,Jj,hy];rfl
   rw[mH]
   have vS:es[y].2=v:=by
    rw[<-hv]
    dsimp only
    rw[Wj,Jj,Uk,Ub MH];rfl
   show wpAny _ _ (setNextDrawn a ((y:Int)).toNat ((ep:Int)).toNat >>= _) _ _ _
   rw[Uz,Uz]
   unfold setNextDrawn
   refine wpAny_bind (wpAny_bind (wpAny_setState_of ho hd hf ?_))
   dsimp only
   refine wpAny_ite ?_
   rw[if_neg (by simp),Ub MH]
   refine wpAny_pure ?_
   show wpAny _ _ (setField (.ref it) 1 (rawInt ((i:Int)+1)) >>= fun _=>ret es[y].2) _ _ _
   rw[vS]
   refine wpAny_bind (wpAny_setField_rec e (by simp) fun h1 e1 s1 =>?_)
   refine wpAny_pure ⟨_,rfl,wpAny_pure (fin h1 (fun b o nb x=>s1.extBut b o nb x) s1.1 ⟨⟨o,s1.extBut _ _ ne ho,hd⟩,hf,g,ne,low,_,.drawn ys p tp tl nt ot n (s1.extBut _ _ nt et) dt,?_⟩)⟩
   simpa [rawInt] using e1
theorem xC {vals:List Value}{it:Addr}{Q:Option Value->Shared->Prop}(hh:A.handled=none)(st:AA w a es ep t lo vals it es.size s.heap)(hl:vals.length=es.size)
  (fin:∀h',(∀b o,b≠it->s.heap.get? b=some o->h'.get? b=some o)->Q none { s with heap:=h' }) :
  wpAny (model prog w) A (pyNext (.ref it)) Q E s:=by
 obtain⟨⟨o,ho,hd⟩,hf,g,ne,low,first,so,e⟩:=st
 have hT:s.TypeIs (.ref it) "set_iterator":=⟨_,e,rfl⟩
 refine wpAny_bind (wpAny_attempt (wpAny_callSpecial?_slot (name:=Str.ofString "__next__") hT du (wpAny_call_entry du hT iZ ?_ (jz _))))
 unfold Builtin.«set_iterator.__next__» slotArgs setEntries setNext setsByText
 simp -iota only [List.isEmpty_nil,Bool.not_true,Ua, ↓reduceIte,bind_assoc,Yx,bne_self_eq_false]
 dsimp only
 try simp -iota only [bind_assoc,Ua, ↓reduceIte]
 refine wpAny_bind (wpAny_pure (wpAny_bind (wpAny_fieldsOf e rfl ?_)))
 dsimp only
 refine wpAny_bind (wpAny_setState_of ho hd hf (wpAny_bind (wpAny_pure ?_)))
 refine wpAny_ite ?_
 rw[if_neg (by simp)]
 cases so with
 | text b=>
  have b':w.params.followText "set-order" = true:=b
  refine wpAny_bind (wpAny_setState_of ho hd hf (wpAny_bind (wpAny_askSetting (wpAny_bind (wpAny_pure ?_)))))
  refine wpAny_bind (wpAny_ite ?_)
  rw[if_pos (show({ program:=(model prog w).prog,params:=(model prog w).w.params }:Setting).params.followText "set-order" = true from b')]
  refine wpAny_ite ?_
  rw[if_neg (by simp)]
  refine wpAny_bind (mj b ho hd hf (wpAny_pure ?_))
  have hx:((pickOrder (w.params.setOrder a ep) es)[(es.size:Int).toNat]?).map (fun e=>(e.2,(0:Int).toNat))=none:=by
   have:(pickOrder (w.params.setOrder a ep) es).size=es.size:=by rw[<-hl,Ja,Jw]
   rw[Uz,Yh (by omega)];rfl
  rw[hx]
  refine wpAny_bind (wpAny_setField_rec e (by simp) fun h1 e1 s1 =>?_)
  wp_walk
  refine wpAny_raiseNew_none hh (wpAny_bind (wpAny_isInstance (T := "StopIteration") (b:=true) ⟨_,Jv _ rfl,rfl⟩ isSubtype_stop (wpAny_pure (fin _ fun b o nb x =>?_))))
  exact Je _ (Je _ (s1.extBut b o nb x))
 | places b d l z c=>
  have b':w.params.followText "set-order" = false:=b
  have MV:t.place.size=es.size:=by
   have:=hf
   simp only[SetTable.fits,Ys,beq_iff_eq] at this
   exact this.1
  refine wpAny_bind (wpAny_setState_of ho hd hf (wpAny_bind (wpAny_askSetting (wpAny_bind (wpAny_pure ?_)))))
  refine wpAny_bind (wpAny_ite ?_)
  rw[if_neg (by show ¬(w.params.followText "set-order" = true);rw[b'];exact Jm)]
  refine wpAny_ite ?_
  rw[if_neg (by show ¬((!t.plain&&decide (es.size>1))=true);rw[d];exact Jm)]
  refine wpAny_bind ?_
  show wpAny _ _ (if (!t.led && !es.isEmpty)=true then unsupported "set:maker-not-led" else pure ()) _ _ _
  rw[l]
  refine wpAny_pure ?_
  have Em:es.size<=SetTable.below t.place ((z:Int)).toNat:=by
   rw[Uz]
   have c2:=e9 g.2 z
   refine Nat.not_lt.mp fun q =>?_
   have hs:SetTable.below t.place z<t.place.size:=by omega
   have:=c2.hi _ hs (Jd _)
   have:=c.lo _ hs q
   omega
  refine wpAny_pure ?_
  dsimp only
  rw[Yh Em]
  dsimp only
  refine wpAny_bind (wpAny_setField_rec e (by simp) fun h1 e1 s1 =>?_)
  wp_walk
  refine wpAny_raiseNew_none hh (wpAny_bind (wpAny_isInstance (T := "StopIteration") (b:=true) ⟨_,Jv _ rfl,rfl⟩ isSubtype_stop (wpAny_pure (fin _ fun b o nb x =>?_))))
  exact Je _ (Je _ (s1.extBut b o nb x))
 | drawn ys p tp tl nt ot n et dt=>
  dsimp only
  unfold seqItems?
  refine wpAny_bind (wpAny_bind (wpAny_load et ?_))
  rw[dt]
  refine wpAny_pure ?_
  dsimp only
  have D6:ys.length=es.size:=by rw[p.length_eq,Yt]
  have mH:(ys.map fun(k:Nat)=>rawInt k).toArray[(es.size:Int).toNat]? = none:=by
   rw[Uz,Yh (by rw[Jl,Ja,D6];exact Jd _)]
  rw[mH]
  refine wpAny_bind (wpAny_setField_rec e (by simp) fun h0 e0 s0=>wpAny_bind (wpAny_setField_rec (s:={ s with heap:=h0 }) e0 (by simp) fun h1 e1 s1 =>?_))
  wp_walk
  refine wpAny_raiseNew_none hh (wpAny_bind (wpAny_isInstance (T := "StopIteration") (b:=true) ⟨_,Jv _ rfl,rfl⟩ isSubtype_stop (wpAny_pure (fin _ fun b o nb x =>?_))))
  exact Je _ (Je _ (s1.extBut b o nb (s0.extBut b o nb x)))
end
section
variable {prog:Program}{w:World}{a:Addr}{es:Array (Int×Value)}{ep:Nat}{t:SetTable}{lo:Nat}
theorem vX {A:Around}{it S:Addr}{vals:List Value}(hh:A.handled=none)(hl:vals.length=es.size)(n1:it≠S)(n2:a≠S)(hS:S<lo):
  AQ prog w A it S (· = it) es.size (fun i v _=>vals[i]? = some v) (fun _ _=>True) (fun i h=>AA w a es ep t lo vals it i h) where
 sfp:=fun z=>n1 z.symm
 item:=fun i s Q E hi st _ q=>xU st (v:=vals[i]) (Jf (by omega)) fun h' k' z' aD=>q _ h' s.toks (fun b o nb x=>k' b o nb x) aD (Jf (by omega)) fun _ _ _=>trivial
 stop:=fun s Q E st _ q=>xC hh st hl fun h' k'=>q h' s.toks fun b o nb x=>k' b o nb x
 keepS:=fun i h h' st k=>st.keep fun b o e hb=>k b o (fun z=>by
  rcases hb with rfl|hb
  ·exact n2 z
  ·subst z;exact absurd hS (Nat.not_lt.mpr hb)) e
 keepP:=fun j v h h' p k=>p
theorem Ai:isSubtype (.type "set") (.type "set")=pure true:=by
 first|rfl|decide|(unfold isSubtype;rfl)
theorem rG {A:Around}{S:Addr}{o:Obj}(hh:A.in1.handled=none){s:Shared}{Z:Result->Shared->Prop}{res:Value}{c0:Nat}(ho:s.heap.get? a=some o)(hx:o.ExactSet)(hd:o.data = .set es ep t)(hf:t.fits es.size=true)(g:cK t)(l:CY w=false->t.led=true)(hz:es.size<=sizeLine)
  (L7:a≠S) (hS:s.heap.get? S=some { cls := .type "list",data := .seq #[] c0 })
  (fin:∀h' tk d acc c vals,Keeps s.heap h' (· = S)->vals.length=es.size->Ya vals (es.toList.map (·.2))->pe h' S es.size (fun i v _=>vals[i]? = some v) (fun _ _=>True) acc c->Z (.ok (.ret res)) { s with heap:=h',toks:=tk,drawn:=d }) :
  wpAny (model prog w) A.in1 (Builtin.List.listExtendWith (.ref S) (.ref a) res) (qE prog w A Z) (fun e s'=>Z (.error e) s') s:=by
 have hT:s.TypeIs (.ref a) "set":=⟨o,ho,hx.1⟩
 have xc:Builtin.List.listSameRef (.ref S) (.ref a)=false:=by simp[Builtin.List.listSameRef,Ne.symm L7]
 have low:=Jo hS
 unfold Builtin.List.listExtendWith
 refine wpAny_bind (wpAny_typeOf hT ?_)
 simp only[xc,show(Value.type "set" == Value.type "list")=false by decide,show(Value.type "set" == Value.type "tuple")=false by decide,Bool.or_false,Ua,if_false]
 refine wpAny_bind (wK ho hx hd hf g l hz fun it h1 d vals hl hp hit k1 fG =>?_)
 have Hy:Shared.TypeIs { s with heap:=h1,drawn:=d } (.ref a) "set":=⟨o,k1 _ _ ho,hx.1⟩
 have hint:∀(Q:Bool->Shared->Prop),Q false { s with heap:=h1,drawn:=d } -> wpAny (model prog w) A.in1 (Builtin.List.listLengthHint (.ref a)) Q (fun e s'=>Z (.error e) s') { s with heap:=h1,drawn:=d }:=fun Q q=>by
  unfold Builtin.List.listLengthHint
  refine wpAny_bind (wpAny_specialOf Hy F.slot_set_len.lookup ?_)
  refine wpAny_bind (wpAny_isInstance (T := "set") (b:=true) Hy Ai ?_)
  refine wpAny_ite_split (fun z=>absurd z (by decide)) fun _=>wpAny_ite_split (fun _ =>?_) fun z=>absurd (show _=true by decide +kernel) z
  exact wpAny_bind (wpAny_typeOf Hy (wpAny_pure q))
 refine wpAny_bind (wpAny_holding (hint _ ?_))
 have Dh:=k1 _ _ hS
 have nS:it≠S:=fun z=>by subst z;exact absurd low (Nat.not_lt.mpr hit)
 have go:∀(h:Heap) (c tk:Nat),Keeps h1 h (· = S)->h.get? S=some { cls := .type "list",data := .seq #[] c } -> codeAny (model prog w) A (.builtin "list.extend.loop" ⟨[.ref S,.ref it,res],[]⟩) Z { s with heap:=h,toks:=tk,drawn:=d }:=fun h c tk k ob=>by
  have Fd:=vX (prog:=prog) (w:=w) (ep:=ep) (t:=t) (vals:=vals) (A:=A.in1) hh hl nS L7 low
  refine kc Fd hz (s:={ s with drawn:=d }) (g:=h1) (fun h' tk acc c k' G=>fin h' tk d acc c vals (fun b o nb q=>k' b o (fun z=>z.elim (fun z=>by subst z;exact absurd (Jo q) (Nat.not_lt.mpr hit)) nb) (k1 b o q)) hl hp G) es.size 0 h tk #[] c (by omega) (Fd.keepS _ _ _ fG k) ⟨ob,rfl,.nil,fun j v e=>by simp at e⟩ fun b o nb q=>k b o (fun z=>nb (.inr z)) q
 refine wpAny_ite_split (fun _ =>?_) fun z=>absurd (show _=true by decide +kernel) z
 refine wpAny_bind (wpAny_rule (wpAny_bind ?_))
 have o1:=Uu (Obj.mapSeq (·.push Value.none)) Dh rfl
 have o2:=Uu (Obj.mapSeq (·.pop)) o1 rfl
 refine wpAny_bind (wpAny_updateSeq (s:={ s with heap:=h1,drawn:=d }) Dh rfl (wpAny_updateSeq (hz:=by seq_fits) o1 rfl (wpAny_pure ⟨plainId_quiet PySem.F.plain_extend_loop _,go _ _ _ (fun b o nb q =>?_) o2⟩)))
 exact(Us _ _ (Ne.symm nb)).trans ((Us _ _ (Ne.symm nb)).trans q)
theorem pT {A:Around}{E:Value->Shared->Prop}{o:Obj}(hh:A.handled=none){s:Shared}{Q:List Value->Shared->Prop}(ho:s.heap.get? a=some o)(hx:o.ExactSet)(hd:o.data = .set es ep t)(hf:t.fits es.size=true)(g:cK t)(l:CY w=false->t.led=true)(hz:es.size<=sizeLine)
  (fin:∀h' tk d vals,s.heap.objs.size<=h'.objs.size->(∀b o,s.heap.get? b=some o->h'.get? b=some o)->Ya vals (es.toList.map (·.2))->Q vals { s with heap:=h',toks:=tk,drawn:=d }):wpAny (model prog w) A (collect (.ref a)) Q E s:=by
 unfold collect
 refine wpAny_bind (wpAny_runValue (codeAny_builtin PySem.F.entry_proto_collect ?_))
 rw[Around.under_plainId PySem.F.plain_proto_collect _]
 show wpAny _ A.in1 (newList [] >>= fun l=>again (.builtin "list.__iadd__" ⟨[l,.ref a],[]⟩)) _ _ s
 refine wpAny_bind (wpAny_newObj_type (wpAny_pure ⟨plainId_quiet PySem.F.plain_list_iadd _,codeAny_builtin PySem.F.entry_list_iadd ?_⟩))
 rw[Around.under_plainId PySem.F.plain_list_iadd _]
 have k0:∀b o,s.heap.get? b=some o->(s.heap.push { cls := .type "list",data := .seq ([]:List Value).toArray }).get? b=some o:=fun b o x=>Je _ x
 refine rG (s:={ s with heap:=s.heap.push { cls := .type "list",data := .seq ([]:List Value).toArray } }) (A:=A) (res := .ref s.heap.objs.size)
  (Z:=fun(r:Result) s'=>match r with
   | .ok (.ret v)=>wpAny (model prog w) A (match v with
    | .ref a=>(load a >>= fun o=>match o.data with
     | .seq xs _=>pure xs.toList
     | _=>unsupported "internal:collect")
    | _=>unsupported "internal:collect") Q E s'
   | .ok _=>False
   | .error e=>E e s') hh (k0 _ _ ho) hx hd hf g l hz (J8 (Jo ho)) (Jv _ rfl) fun h' tk d acc c vals k hl hp G =>?_
 refine wpAny_bind (wpAny_load G.ob (wpAny_pure ?_))
 have e:acc.toList=vals:=by
  refine List.ext_getElem? fun j =>?_
  by_cases hj:j<acc.size
  ·rw[Uk,Ub hj]
   exact(G.all j _ (Ub hj)).symm
  ·rw[Uk,Yh (by omega),List.getElem?_eq_none (by have:=G.sz;omega)]
 rw[e]
 exact fin h' tk d vals (U8 (Jo G.ob)) (fun b o x=>k b o (J8 (Jo x)) (k0 b o x)) hp
end
theorem jA {α:Type}[DecidableEq α]:∀{D ns:List α},D.Nodup->(∀k∈D,k∈ns)->ns.length<=D.length->Ya ns D
 | [],ns,_,_,hl=>by rw[U7 (Nat.le_zero.mp hl)]
 | k::D,ns,nd,sub,hl=>by
  obtain⟨nk,yk⟩:=Yd.mp nd
  have hk:=sub k Jn
  refine(List.perm_cons_erase hk).trans (Ya.cons k (jA yk (fun x hx =>?_) ?_))
  ·exact(List.mem_erase_of_ne (fun z=>nk (by rw[<-z];exact hx))).mpr (sub x (Jp _ hx))
  ·rw[List.length_erase_of_mem hk]
   rw[Jx] at hl
   omega
theorem Inv.drawn {X:Cx}{pins:List (Addr×Obj)}{σ:St}{H:Hp}{s:Shared}(d:Drawn)(I:Inv X pins σ H s):Inv X pins σ H { s with drawn:=d }:=⟨I.ok,I.os,I.bare,I.base,I.loc,I.cell,I.free,I.freeC,I.pin,I.aZ,I.len⟩
theorem Aa:typeLookup (.type "list") "keys" = pure none:=by rw[typeLookup_type,builtinLookup_eq_fast];kernel_rfl
theorem FC:typeLookup (.type "list") "__getattr__" = pure none:=by rw[typeLookup_type,builtinLookup_eq_fast];kernel_rfl
theorem wM:isSubtype (.type "AttributeError") (.type "AttributeError")=pure true:=by first|rfl|(rw[isSubtype_type];kernel_rfl)
section
variable {prog:Program}{w:World}{A:Around}{E:Value->Shared->Prop}{h:Heap}{g:Array GenState}{d:Drawn}{t:Nat}{os:OsState}{a:Addr}{o:Obj}
theorem qA {tk:Tok}{Q:Fin->Shared->Prop}(hx:h.get? a=some o)(hc:o.cls = .type "list")(Bz:o.dict=none){xs:Array Value}{n:Nat}(hd:o.data = .seq xs n)(hh:A.handled=none)
  (hq:∀e h' t',(∀b o,h.get? b=some o->h'.get? b=some o)->(∃oe,h'.get? e=some oe/\oe.cls = .type "AttributeError")->E (.ref e) ⟨h',g,d,t',os⟩) :
  wpAny (model prog w) A (Builtin.«object.__getattribute__» ⟨[.ref a,.str "keys" tk],[]⟩) Q E ⟨h,g,d,t,os⟩:=by
 have hT:(⟨h,g,d,t,os⟩:Shared).TypeIs (.ref a) "list":=⟨_,hx,hc⟩
 have f4:=Aa
 repeat (any_goals (first|assumption|wp_step))
 rw[hd]
 dsimp only
 unfold instanceDict
 repeat (any_goals (first|assumption|wp_step))
 rw[Bz,hc]
 repeat (any_goals (first|assumption|wp_step))
 have f9:=wM
 unfold raiseAttrError noteAttr
 wp_walk
 rw[show(Manifest.find? "AttributeError").elim false (fun t=>t.mro.contains "StopIteration" || t.mro.contains "SystemExit")=false by decide +kernel,if_neg Jm]
 repeat (any_goals (first|assumption|wp_step))
 refine wpAny_raiseNew_none hh (hq _ _ _ (fun b o' x =>?_) ⟨_,Uu _ (Jv _ rfl) rfl,rfl⟩)
 have x1:=Je (h:=h) { cls:=Value.type "tuple",data:=Data.seq #[Value.str (Str.ofString (toString "'" ++ toString ((Manifest.find? "list").elim "list" fun x=>x.tpName)++toString "' object has no attribute '")++Str.ofString "keys" ++ Str.ofString "'") t] } x
 rw[Us _ _ (Yw (Jo x1))]
 exact Je _ x1
theorem uS {tk:Tok}{R:Result->Shared->Prop}(hx:h.get? a=some o)(hc:o.cls = .type "list")(Bz:o.dict=none){xs:Array Value}{n:Nat}(hd:o.data = .seq xs n)(hh:A.handled=none)
  (hq:∀e h' t',(∀b o,h.get? b=some o->h'.get? b=some o)->(∃oe,h'.get? e=some oe/\oe.cls = .type "AttributeError")->R (.error (.ref e)) ⟨h',g,d,t',os⟩) :
  codeAny (model prog w) A (.call (.builtin "list.__getattribute__") ⟨[.ref a,.str "keys" tk],[]⟩) R ⟨h,g,d,t,os⟩:=
 codeAny_call_builtin F.slot_list_getattribute.plain F.entry_list_ga (F.slot_list_getattribute.check _ _ _ _ _ _ _ _ (show(⟨h,g,d,t,os⟩:Shared).TypeIs (.ref a) "list" from⟨_,hx,hc⟩) (F.args_list_getattribute_2 _ _) (qA hx hc Bz hd hh hq))
theorem uT {Q:Option Value->Shared->Prop}(hx:h.get? a=some o)(hc:o.cls = .type "list")(Bz:o.dict=none){xs:Array Value}{n:Nat}(hd:o.data = .seq xs n)(hh:A.handled=none)
  (hq:∀h' t',(∀b o,h.get? b=some o->h'.get? b=some o)->Q none ⟨h',g,d,t',os⟩):wpAny (model prog w) A (getAttr? (.ref a) "keys") Q E ⟨h,g,d,t,os⟩:=by
 have hT:(⟨h,g,d,t+1,os⟩:Shared).TypeIs (.ref a) "list":=⟨_,hx,hc⟩
 have f2:=F.slot_list_getattribute.lookup
 have f3:=F.slot_list_getattribute.bind (.ref a)
 have f4:=FC
 unfold getAttr? getAttrBy?
 repeat (any_goals (first|assumption|wp_step))
 refine uS hx hc Bz hd hh fun e h' t' k hoe =>?_
 have Nv:Shared.TypeIs ⟨h',g,d,t',os⟩ (.ref e) "AttributeError":=hoe
 have f5:=wM
 dsimp only
 unfold getattributeRaised
 refine wpAny_bind (wpAny_isInstance (T := "AttributeError") (b:=true) Nv f5 ?_)
 rw[if_pos rfl]
 unfold hookBehind
 repeat (any_goals (first|assumption|wp_step))
 exact hq h' t' k
end
theorem gj:entryFor table "dict.update.loop" = some Builtin.«dict.update.loop»:=entryFor_of_fast (by kernel_rfl)
theorem de:plainId "dict.update.loop" = true:=by decide +kernel
section
variable {prog:Program}{w:World}{K:Type}[DecidableEq K]{knd:KeyKind prog w K}{A:Around}{E:Value->Shared->Prop}
def qy (knd:KeyKind prog w K)(h:Heap)(v:Value)(kv:K×Value):Prop:=∃(tp:Addr) (o:Obj) (n:Nat) (ku:Value),v = .ref tp/\h.get? tp=some o/\o.cls = .type "tuple" /\ o.data = .seq #[ku,kv.2] n/\knd.is kv.1 ku=true
theorem kC {s:Shared}{R:Result->Shared->Prop}{it l d:Addr}{items:Array Value}{kvs:List (K×Value)}{g:Heap}(hh:A.in1.handled=none)(hl:g.IsList l items)(hn:items.size=kvs.length)(hz:kvs.length<=100000)
  (hp:∀(j:Nat) v kv,items[j]? = some v->kvs[j]? = some kv->qy knd g v kv) (lit:∀b o,g.get? b=some o->b≠it/\b≠d) (ne:d≠it)
  (fin:∀h tk,(∀b o,b≠d->b≠it->g.get? b=some o->h.get? b=some o)->h.DictOf knd d (merged [] kvs)->R (.ok (.ret .none)) { s with heap:=h,toks:=tk }) :
  ∀(k i:Nat) (h:Heap) (tk:Nat) (acc:List (K×Value)),i+k=kvs.length->acc.length<=i->merged acc (kvs.drop i)=merged [] kvs->(∀b o,b≠d->b≠it->g.get? b=some o->h.get? b=some o)->h.IsListIter it l i->h.DictOf knd d acc ->
   codeAny (model prog w) A (.builtin "dict.update.loop" ⟨[.ref d,.ref it,rawInt i,.none],[]⟩) R { s with heap:=h,toks:=tk }
 | 0,i,h,tk,acc,hk,ha,hm,kp,hi,hd=>by
  have e:i=kvs.length:=by omega
  subst e
  have tZ:h.IsList l items:=by
   obtain⟨o,ho,r⟩:=hl
   exact⟨o,kp _ _ (lit _ _ ho).2 (lit _ _ ho).1 ho,r⟩
  refine codeAny_builtin gj ?_
  rw[Around.under_plainId de _]
  unfold Builtin.«dict.update.loop»
  refine wpAny_bind (wpAny_pyNext_list_end (s:={ s with heap:=h,toks:=tk }) hh hi tZ (by rw[Yh (by omega)]) fun h' eb =>?_)
  refine wpAny_bind (m:=Builtin.Dict.addKeywords d []) (wpAny_pure (wpAny_pure ?_))
  refine fin h' tk (fun b o nd ni x=>eb b o ni (kp b o nd ni x)) ?_
  rw[List.drop_length] at hm
  have hm:acc=merged [] kvs:=hm
  rw[<-hm]
  obtain⟨o,es,ep,ho,r⟩:=hd
  exact⟨o,es,ep,eb _ _ ne ho,r⟩
 | k+1,i,h,tk,acc,hk,ha,hm,kp,hi,hd=>by
  have cc:i<kvs.length:=by omega
  have tZ:h.IsList l items:=by
   obtain⟨o,ho,r⟩:=hl
   exact⟨o,kp _ _ (lit _ _ ho).2 (lit _ _ ho).1 ho,r⟩
  have hit:items[i]? = some items[i]:=Ub (by omega)
  obtain⟨tp,o,n,ku,ev,ho,hc,hdat,wj⟩:=hp i _ _ hit (Jf cc)
  refine codeAny_builtin gj ?_
  rw[Around.under_plainId de _]
  unfold Builtin.«dict.update.loop»
  refine wpAny_bind (wpAny_pyNext_list_item (s:={ s with heap:=h,toks:=tk }) hi tZ hit fun h1 hi1 Di =>?_)
  rw[ev]
  have M0:h1.get? tp=some o:=Di.extBut _ _ (lit _ _ ho).1 (kp _ _ (lit _ _ ho).2 (lit _ _ ho).1 ho)
  have BJ:h1.DictOf knd d acc:=by
   obtain⟨o,es,ep,ho,r⟩:=hd
   exact⟨o,es,ep,Di.extBut _ _ ne ho,r⟩
  have hT:Shared.TypeIs { s with heap:=h1,toks:=tk } (.ref tp) "tuple":=⟨o,M0,hc⟩
  refine wpAny_bind (wpAny_holding ?_)
  refine wpAny_bind (wpAny_tryCatch ?_)
  unfold Builtin.Dict.pairItems
  refine wpAny_bind (wpAny_typeOf hT ?_)
  rw[if_pos (by decide)]
  refine wpAny_bind (wpAny_seqItems (s:={ s with heap:=h1,toks:=tk }) M0 hdat (wpAny_pure ?_))
  refine wpAny_holding (wpAny_dictSet_pairs (s:={ s with heap:=h1,toks:=tk }) wj BJ (fun h2 hd2 sb2 =>?_) (Js (show acc.length<=100000 by omega) (by decide)))
  refine wpAny_pure ⟨plainId_quiet de _,?_⟩
  have:=kC hh hl hn hz hp lit ne fin k (i+1) h2 (tk+1) (stored acc kvs[i].1 kvs[i].2) (by omega) ?_ ?_ (fun b o nd ni x=>sb2.extBut b o nd (Di.extBut b o ni (kp b o nd ni x))) ?_ hd2
  ·exact this
  ·refine Js ?_ (Wh ha)
   unfold stored
   split
   ·rw[Ja];exact Y0 _
   ·rw[Jc];exact Jd _
  ·rw[<-hm,Y5 cc]
   rfl
  ·obtain⟨oi,e1,r⟩:=hi1
   exact⟨oi,sb2.extBut _ _ (Ne.symm ne) e1,r⟩
theorem qZ {s:Shared}{Q:Value->Shared->Prop}{l:Addr}{items:Array Value}{kvs:List (K×Value)}{ol:Obj}{n:Nat}(hh:A.handled=none)(ho:s.heap.get? l=some ol)(hc:ol.cls = .type "list")(Bz:ol.dict=none)(hd:ol.data = .seq items n)(hn:items.size=kvs.length)(hz:kvs.length<=100000)
  (hp:∀(j:Nat) v kv,items[j]? = some v->kvs[j]? = some kv->qy knd s.heap v kv)
  (fin:∀h tk,(∀b o,s.heap.get? b=some o->h.get? b=some o)->h.DictOf knd s.heap.objs.size (merged [] kvs)->Q (.ref s.heap.objs.size) { s with heap:=h,toks:=tk }) :
  wpAny (model prog w) A (call (.type "dict") [.ref l]) Q E s:=by
 refine callType_codes (Q₁:=fun obj s₁=>obj = .ref s.heap.objs.size/\s₁={ s with heap:=s.heap.push { cls := .type "dict",data := .dict #[] } }) F.kt_called_dict (F.kt_typeCall_dict_1 _) F.entry_dict_init (kt_code_dict_new _ ⟨rfl,rfl⟩) ?_
 rintro obj s1 ⟨rfl,rfl⟩
 have new:(s.heap.push { cls := .type "dict",data := .dict #[] }).DictOf knd s.heap.objs.size []:=Heap.DictOf.new s.heap
 have k0:∀b o,s.heap.get? b=some o->(s.heap.push { cls := .type "dict",data := .dict #[] }).get? b=some o:=fun b o x=>Je _ x
 refine⟨new.typeIs,F.args_dict_init_2 _ _,?_⟩
 unfold Builtin.«dict.__init__» Builtin.Dict.selfAndRest
 refine wpAny_bind (wpAny_bind (wpAny_notOrdered_dict new.typeIs ?_))
 show wpAny _ _ (pure (s.heap.objs.size,[Value.ref l])) _ _ _
 refine wpAny_pure ?_
 show wpAny _ _ (Builtin.Dict.updateFrom "dict.__init__" s.heap.objs.size (.ref l) [] .none) _ _ _
 unfold Builtin.Dict.updateFrom
 have hT:Shared.TypeIs { s with heap:=s.heap.push { cls := .type "dict",data := .dict #[] } } (.ref l) "list":=⟨ol,k0 _ _ ho,hc⟩
 refine wpAny_bind (wpAny_typeOf hT ?_)
 rw[if_pos (by decide)]
 refine wpAny_bind (uT (h:=s.heap.push { cls := .type "dict",data := .dict #[] }) (k0 _ _ ho) hc Bz hd hh fun h1 t1 k1 =>?_)
 rw[if_pos (by rfl)]
 have kk:∀b o,s.heap.get? b=some o->h1.get? b=some o:=fun b o x=>k1 b o (k0 b o x)
 refine wpAny_bind (wpAny_rule (wpAny_bind (wpAny_pyIter_list (l:=l) (items:=items) ⟨ol,kk _ _ ho,hc,n,hd⟩ ?_)))
 have hS:s.heap.objs.size<h1.objs.size:=by
  obtain⟨o,es,ep,e,_⟩:=new
  exact Jo (k1 _ _ e)
 refine wpAny_pure ⟨plainId_quiet de _,?_⟩
 have low:∀b o,s.heap.get? b=some o->b≠h1.objs.size/\b≠s.heap.objs.size:=fun b o x=>⟨J8 (Jo (kk b o x)),J8 (Jo x)⟩
 refine kC (s:=s) (knd:=knd) (A:=A.in1) (it:=h1.objs.size) (g:=s.heap) (kvs:=kvs) hh ⟨ol,ho,hc,n,hd⟩ hn hz hp low (J8 hS) (fun h tk k dd=>⟨rfl,fin h tk (fun b o x=>k b o (low b o x).2 (low b o x).1 x) dd⟩) kvs.length 0 _ _ [] (by omega) (Jd _) rfl (fun b o nd ni x=>Je _ (kk b o x)) ⟨_,Jv _ rfl,rfl,rfl⟩ ?_
 obtain⟨o,es,ep,e,r⟩:=new
 exact⟨o,es,ep,Je _ (k1 _ _ e),r⟩
end
section
variable {X:Cx}{pins:List (Addr×Obj)}{σ:St}{H:Hp}{s:Shared}
theorem uU (I:Inv X pins σ H s)(as:List Addr):∀{kvs:List (Key×V)},as.length=kvs.length->(∀(j:Nat) b kv,as[j]? = some b->kvs[j]? = some kv->d9 X.K H b [kV kv.1,kv.2]) ->
  ∃vs,KV kvs vs/\∀(j:Nat) b kv,as[j]? = some b->vs[j]? = some kv->qy (bj X.prog X.w) s.heap (.ref b) kv:=by
 induction as with
 | nil=>
  intro kvs hl _
  rw[U7 hl.symm]
  exact⟨[],.nil,fun j b kv h=>by simp at h⟩
 | cons a as ih=>
  intro kvs hl h
  cases kvs with
  | nil=>cases hl
  | cons p kvs=>
  obtain⟨vs,h1,h2⟩:=ih (kvs:=kvs) (by simpa using hl) fun j b kv e1 e2=>h (j+1) b kv e1 e2
  obtain⟨av,r,⟨o,e1,e2,n,e3⟩,_⟩:=I.tuple (h 0 a p rfl rfl)
  obtain⟨ku,vu,rfl,r1,r2⟩:=r.two
  refine⟨(p.1,vu)::vs,.cons ⟨rfl,r2⟩ h1,fun j b kv e4 e5 =>?_⟩
  cases j with
  | zero=>
   cases e4;cases e5
   exact⟨a,o,n,ku,rfl,e1,e2,e3,jD r1⟩
  | succ j=>exact h2 j b kv e4 e5
theorem kh:∀{as:List Addr} {av:List Value},Vals (as.map V.ref) av->av=as.map Value.ref
 | [],_,rv=>by cases rv;rfl
 | a::as,_,rv=>by
  obtain⟨v,r,rfl,rv1,rv2⟩:=rv.hd
  cases rv1
  rw[kh rv2];rfl
theorem Ef (K:Jb)(hc:X.calm=true)(hK:X.K=K:=by rfl):cn X (.type "dict") (fun xs H Q=>∃(p:Addr) (as:List Addr) (kvs:List (Key×V)),xs=[.ref p]/\aE K H p (as.map V.ref)/\as.length=kvs.length/\kvs.length<=100000 /\
  (∀(j:Nat) b kv,as[j]? = some b->kvs[j]? = some kv->d9 K H b [kV kv.1,kv.2])/\∀d H',dz H d (.dK (cP [] kvs)) H'->Q (.ref d) H'):=by
 subst hK
 intro pins s σ H xs us Q I r h
 obtain⟨p,as,kvs,rfl,hp,hl,hz,ht,q⟩:=h
 obtain⟨u,rfl,ru⟩:=vals1 r
 cases ru
 obtain⟨av,rv,⟨o,n,e1,e2,e3,e4⟩,_⟩:=I.list hp
 obtain⟨vs,kv,pa⟩:=uU I _ hl ht
 have hits:=kh rv
 have kl:=kv.length
 refine qZ (knd:=bj X.prog X.w) (kvs:=vs) (I.ok.hd hc) e1 e2 e3 e4 (by rw[hits];simp;omega) (by omega) (fun j v kw h1 h2 =>?_) fun h1 tk k1 dd =>?_
 ·rw[hits] at h1
  simp only[List.getElem?_toArray,Jj] at h1
  cases e:as[j]? with
  | none=>rw[e] at h1;cases h1
  | some b=>rw[e] at h1;cases h1;exact pa j b kw e h2
 ·have ml:=dq kvs []
  have big:=I.big
  refine⟨.ref s.heap.objs.size,_,I.laid (a:=s.heap.objs.size) (o := .dK (cP [] kvs)) (t':=tk) k1 (Jd _) ⟨Js (show _<=100000 by simp at ml;omega) (by decide),?_,_,KV.merge kv .nil,dd⟩,rfl,q _ _ ⟨I.aZ.fresh (Jd _),rfl⟩⟩
  exact beq_eq_false_iff_ne.mpr (Yw big)
end
section
variable {X:Cx}
theorem zF:ur X "dict.update" (fun x vs H Q=>om fun(d o:Addr) (kvs more:List (Key×V))=>x = .ref d/\vs=[.ref o]/\d≠o/\H d=some (.dK kvs)/\H o=some (.dK more)/\kvs.length+more.length<=sizeLine/\Q .non (upd H d (.dK (cP kvs more)))):=by
 intro pins s σ H x vs v us Q I rx rv h
 obtain⟨d,o,kvs,more,rfl,rfl,hdo,hd,ho,hl,q⟩:=h
 cases rx
 obtain⟨u,rfl,ru⟩:=vals1 rv
 cases ru
 obtain⟨z1,ns1,vs1,kv1,dd1⟩:=I.aZ d _ hd
 obtain⟨z2,ns2,vs2,kv2,dd2⟩:=I.aZ o _ ho
 have l1:=kv1.length
 have l2:=kv2.length
 refine call_meetsIn F.slot_dict_update dd1.typeIs F.entry_dict_update (F.args_dict_update_2 _ _) (meets_dict_update (bj X.prog X.w) d o hdo ns2) ⟨vs1,vs2,dd1,dd2,by omega,fun h' dd' _ hs =>?_⟩
 have ml:=dq more kvs
 have he:∃q,h'.get? d=some q:=let ⟨q,_,_,hq,_⟩:=dd'; ⟨q,hq⟩
 exact⟨.non,_,gP I (by rw[hd];exact True.intro) hs he (nN (by omega) ns1 (KV.merge kv2 kv1) dd'),rfl,q⟩
end
theorem lW {K:Jb}{H:Hp}:∀{ds:List PyData} {vs:List V},aL K H ds vs->vs.length=ds.length
 | [],_,h=>by unfold aL at h;rw[h];rfl
 | _::_,_,h=>by
  unfold aL at h
  obtain⟨v,r,rfl,_,h2⟩:=h
  rw[Jx,Jx,lW h2]
theorem lT {K:Jb}{H:Hp}:∀{ds:List PyData} {vs:List V} {m:Nat} {d:PyData},aL K H ds vs->ds[m]? = some d->∃v,vs[m]? = some v/\Den K H d v
 | [],_,_,_,_,e=>by cases e
 | _::_,_,0,_,h,e=>by
  unfold aL at h
  obtain⟨v,r,rfl,h1,_⟩:=h
  cases e
  exact⟨v,rfl,h1⟩
 | _::_,_,m+1,_,h,e=>by
  unfold aL at h
  obtain⟨v,r,rfl,_,h2⟩:=h
  exact lT (m:=m) h2 e
section
variable {X:Cx}{pins:List (Addr×Obj)}{σ:St}{H:Hp}{s:Shared}
theorem Ae (hu:X.A.units+66<cLine)(I:Inv X pins σ H s){d:PyData}{x:V}{v:Value}(hd:Den X.K H d x)(rx:RelV x v)(hc:d.canLay0=true){e:PyData}{y:V}{u:Value}(he:Den X.K H e y)(ry:RelV y u)(hs:SeqAt.shaped e=true):
  jM s.heap d u=PyData.eqv e d/\SeqAt.EqAt X.A.in1 s u v (jM s.heap d u):=by
 obtain⟨bs,rb⟩:=he.reads I ry
 have hex:∃e as,Reads s.heap u e as/\e.canLay0=true/\e.depth<=64:=⟨e,bs,rb,SeqAt.canLay_of_shaped hs,SeqAt.depth_of_shaped hs⟩
 have ea:jM s.heap d u=PyData.eqv hex.choose d:=by unfold jM;rw[dif_pos hex]
 have Hb:hex.choose=e:=SeqAt.Reads.unique _ _ _ _ _ hex.choose_spec.choose_spec.2.1 hex.choose_spec.choose_spec.1 rb
 rw[ea,Hb]
 exact⟨rfl,ma hu I hd rx hc he ry hs⟩
theorem Bt (K:Jb)(hu:X.A.units+66<cLine)(hK:X.K=K:=by rfl):ur X "list.index" (fun x vs H Q=>zW fun(l:Addr) (xs:List V) (y:V) (d:PyData) (ds:List PyData) (j:Nat)=>x = .ref l/\vs=[y]/\H l=some (.lst xs)/\Den K H d y/\aL K H ds xs/\d.canLay0=true/\(∀e∈ds,SeqAt.shaped e=true) /\
  (∃e,ds[j]? = some e/\PyData.eqv e d=true)/\(∀m e,m<j->ds[m]? = some e->PyData.eqv e d=false)/\Q (.int (j:Nat)) H):=by
 subst hK
 intro pins s σ H x vs v us Q I rx rv h
 refine ae.el (h) _ ?_
 rintro l xs y d ds j rfl rfl hH hd hds hc hs ⟨e0,hj,uY⟩ og q
 cases rx
 refine ae.el (vals1 rv) _ ?_
 rintro u rfl ru
 refine ae.el (I.jN hH) _ ?_
 rintro z av n r hl e
 have hlen:=r.length
 have dl:=lW hds
 have jl:j<ds.length:=(Ju.mp hj).1
 have at':∀m (hm:m<av.length),jM s.heap d av[m]=PyData.eqv (ds[m]'(by omega)) d/\SeqAt.EqAt X.A.in1 s av[m] u (jM s.heap d av[m]):=fun m hm=>by
  obtain⟨a,h1,h2⟩:=fj r (i:=m) (v:=av[m]) (by simp[hm])
  obtain⟨b,h3,h4⟩:=lT hds (Jf (show m<ds.length by omega))
  rw[h1] at h3
  cases h3
  exact Ae hu I hd ru hc h4 h2 (hs _ (Jt _))
 have hn:=iy
 refine call_meets F.slot_list_index ⟨_,e,rfl⟩ F.entry_list_index (F.args_list_index_2 _ _) (SeqAt.list_indexAt l av.toArray n none #[] u (jM s.heap d) j (by rw[Jl];omega) (by omega) ?_ ?_) ⟨e,fun w hw =>?_,?_⟩
 ·show jM s.heap d av[j]=true
  rw[(at' j (by omega)).1]
  have:=(Ju.mp hj).2
  rw[this];exact uY
 ·intro m hm hmj
  have rN:m<av.length:=by rw[Jl] at hm;exact hm
  show jM s.heap d av[m]=false
  rw[(at' m rN).1]
  exact og m _ hmj (Jf (by omega))
 ·have hw:w∈av:=by simpa using hw
  refine ae.el (U2.mp hw) _ ?_
  rintro i hi ew
  rw[<-ew]
  exact(at' i hi).2
 ·exact⟨.int _,H,I.tok _,⟨_,rfl⟩,q⟩
end
section
variable {prog:Program}{w:World}{K:Type}[DecidableEq K]{knd:PySem.KeyKind prog w K}
variable {A:Around}{R:Result->Shared->Prop}{I:Addr}{fp wr:List Addr}{G:Array GenState->Array GenState->Prop}{n:Nat}{P:Nat->Value->Prop}{St:Nat->Shared->Prop}
theorem lQ (W:WalksS prog w A.in1 I fp wr G n P St)(S:Addr)(hS:S∉fp)(ks:Nat->K)(hv:∀i v,P i v->knd.is (ks i) v=true/\v.scannable=true)(hb:n+1<scanBound):
  ∀(k i:Nat) (s:Shared),i+k=n->St i s->bO knd s.heap S (bN ks i)->(∀s',Moved (S::wr) G s s'->bO knd s'.heap S (bN ks n)->R (.ok (.ret .none)) s') ->
   codeAny (model prog w) A (.builtin "set.update.loop" ⟨[.ref S,.ref I],[]⟩) R s
 | 0,i,s,hk,st,hK,fin=>by
  have e:i=n:=by omega
  subst e
  refine codeAny_builtin F.entry_set_update_loop ?_
  rw[Around.under_plainId F.plain_set_update_loop _]
  refine wpAny_bind (m:=pyNext (.ref I)) (W.done s _ _ st fun s' mv =>?_)
  refine wpAny_pure (fin s' (mv.mono fun b hb=>Jp _ hb) (hK.at' fun o e=>mv.heap S o (fun z=>hS (W.sub _ z)) e))
 | k+1,i,s,hk,st,hK,fin=>by
  refine codeAny_builtin F.entry_set_update_loop ?_
  rw[Around.under_plainId F.plain_set_update_loop _]
  refine wpAny_bind (m:=pyNext (.ref I)) (W.item i s _ _ (by omega) st fun v s' pv aD mv =>?_)
  obtain⟨h1,h2⟩:=hv i v pv
  have Pn:bO knd s'.heap S (bN ks i):=hK.at' fun o e=>mv.heap S o (fun z=>hS (W.sub _ z)) e
  refine wpAny_bind (m:=holding [v] (setAdd S v)) (wpAny_holding ?_)
  unfold setAdd
  refine wpAny_holding (wpAny_bind (knd.pyHash (k:=ks i) h1 ?_))
  have room:(bN ks i).length+1<scanBound:=by have:=ir ks i;omega
  refine rA (s:={ s' with toks:=s'.toks+1 }) h1 h2 Pn room fun _ h' sb hN =>?_
  refine wpAny_pure ⟨plainId_quiet F.plain_set_update_loop _,?_⟩
  refine lQ W S hS ks hv hb k (i+1) _ (by omega) (W.frame _ s' _ _ aD (Y0 _) fun b hb o e =>?_) hN fun s2 mv2 hK2 =>?_
  ·rw[sb.2 b (fun z:b=S=>hS (by rw[<-z];exact hb))];exact e
  ·refine fin s2 (Moved.trans W.gtrans ((mv.mono fun b hb=>Jp _ hb).then_heap (Y0 _) fun b o nb e =>?_) mv2) hK2
   rw[sb.2 b (fun z:b=S=>nb (by rw[z];exact Jn))];exact e
end
section
variable {prog:Program}{w:World}{K:Type}[DecidableEq K]{knd:PySem.KeyKind prog w K}{A:Around}{E:Value->Shared->Prop}{s:Shared}
theorem pq (v:Value){Q₁:Value->Shared->Prop}(h:∀led,(w.params.followText "set-order" = false->led=true)->Q₁ (.ref s.heap.objs.size) { s with heap:=s.heap.push (bZ led) }):
  codeAny (model prog w) A (.call (.builtin "set.__new__") ⟨[.type "set",v],[]⟩) (wants Q₁ E) s:=by
 refine codeAny_of_tree (show wpAny _ A.in1 (do checkBuiltinCall "set.__new__" ⟨[.type "set",v],[]⟩;again (.builtin "set.__new__" ⟨[.type "set",v],[]⟩)) _ _ s from ?_)
 refine wpAny_bind (wpAny_of_eq (F.newCall_set_1 v) (wpAny_pure ⟨plainId_quiet F.plain_set_new _,codeAny_builtin F.entry_set_new ?_⟩))
 rw[Around.under_plainId F.plain_set_new _]
 have dk:=sub_set_self
 obtain⟨hp,g,d,tk,os⟩:=s
 unfold Builtin.«set.__new__» Builtin.Frozenset.newClass
 dsimp only
 wp_walk
 refine wpAny_askSetting (wpAny_pure ?_)
 dsimp only
 simp only[newObj]
 exact wpAny_bind (wpAny_alloc (wpAny_pure (wpAny_pure (h _ fun z=>by show(!w.params.followText "set-order")=true;rw[z];rfl))))
theorem tY {l:Addr}{items:Array Value}{led:Bool}{R:Result->Shared->Prop}(vz:w.params.followText "set-order" = false->led=true)(hh:A.handled=none)(hl:s.heap.IsList l items)(ks:Nat->K)(hv:∀(i:Nat) v,items[i]? = some v->knd.is (ks i) v=true/\v.scannable=true)(hb:items.size+1<scanBound)
  (fin:∀(h':Heap) (tk:Nat),bO knd h' s.heap.objs.size (bN ks items.size)->(∀b o,s.heap.get? b=some o->h'.get? b=some o)->R (.ok (.ret .none)) { s with heap:=h',toks:=tk }) :
  codeAny (model prog w) A (.call (.builtin "set.__init__") ⟨[.ref s.heap.objs.size,.ref l],[]⟩) R { s with heap:=s.heap.push (bZ led) }:=by
 have hS:(s.heap.push (bZ led)).get? s.heap.objs.size=some (bZ led):=Jv _ rfl
 have hT:Shared.TypeIs { s with heap:=s.heap.push (bZ led) } (.ref s.heap.objs.size) "set":=⟨_,hS,rfl⟩
 refine codeAny_call_builtin F.called_set.init.plain F.entry_set_init ?_
 refine check_set_init_1 hT ?_
 obtain⟨ol,g1,g2,nl,g3⟩:=hl
 obtain⟨c1,c2,c3,c4⟩:=ol
 have g2:c1 = .type "list":=g2
 have g3:c3 = .seq items nl:=g3
 subst g2 g3
 have P0:Shared.TypeIs { s with heap:=s.heap.push (bZ led) } (.ref l) "list":=⟨_,Je _ g1,rfl⟩
 have gl:(s.heap.push (bZ led)).get? l=some { cls := .type "list",dict:=c2,data := .seq items nl,slots:=c4 }:=Je _ g1
 have Mq:(s.heap.push (bZ led)).IsList l items:=⟨_,gl,rfl,nl,rfl⟩
 have z1:=F.sub_list_set
 have z2:=F.sub_list_frozenset
 have z3:(Value.type "list" == Value.type "dict")=false:=by decide
 unfold Builtin.«set.__init__» noKeywords
 unfold Builtin.Frozenset.updateFrom
 generalize hPI:pyIter=PI
 wp_walk
 subst hPI
 refine wpAny_pyIter_list Mq ?_
 refine wpAny_bind (wpAny_runValue ?_)
 have lS:l<s.heap.objs.size:=Jo g1
 have sz:(s.heap.push (bZ led)).objs.size=s.heap.objs.size+1:=Wx ..
 have nI:l≠(s.heap.push (bZ led)).objs.size:=by rw[sz];exact J8 (Wr lS)
 have nS:s.heap.objs.size∉[(s.heap.push (bZ led)).objs.size,l]:=by
  rw[sz]
  intro z
  rcases Um.mp z with z|z
  ·exact J8 (Nat.lt_succ_self _) z
  ·exact Yw lS (Jg.mp z)
 have W:=Walks.list (prog:=prog) (w:=w) (A:=A.in1.in1) (by simp[hh]) _ l nI items
 refine lQ W.toS s.heap.objs.size nS ks hv hb items.size 0 _ (by omega) ?st ?k0 ?fin
 case st=>exact⟨⟨_,Jv _ rfl,rfl,rfl⟩,Mq.push _⟩
 case k0=>exact qt vz (Je { cls := .type "list_iterator",data := .fields #[.ref l,.int 0 0] } hS)
 case fin=>
  intro s2 mv hK
  obtain⟨h2,g2,d2,t2,o2⟩:=s2
  have q1:g2=s.gens:=mv.gens
  have q2:d2=s.drawn:=mv.drawn
  have q3:o2=s.os:=mv.os
  subst q1 q2 q3
  refine wpAny_pure ?_
  refine wpAny_pure (fin h2 t2 hK fun b o e =>?_)
  have nb:=Jo e
  refine mv.heap b o (fun z =>?_) (Je _ (Je _ e))
  rcases Um.mp z with z|z
  ·exact J8 nb z
  ·have z:=Jg.mp z
   rw[z,sz] at nb
   exact Yg _ (Wv nb)
theorem uZ {l:Addr}{items:Array Value}{Q:Value->Shared->Prop}(hh:A.handled=none)(hl:s.heap.IsList l items)(ks:Nat->K)(hv:∀(i:Nat) v,items[i]? = some v->knd.is (ks i) v=true/\v.scannable=true)(hb:items.size+1<scanBound)
  (fin:∀(h':Heap) (tk:Nat),bO knd h' s.heap.objs.size (bN ks items.size)->(∀b o,s.heap.get? b=some o->h'.get? b=some o)->Q (.ref s.heap.objs.size) { s with heap:=h',toks:=tk }) :
  wpAny (model prog w) A (call (.type "set") [.ref l]) Q E s:=by
 have a1:=F.called_set.made
 have a2:=F.called_set.sub
 have a3:=F.called_set.notType
 have a4:=F.called_set.canCreate
 have a5:=F.typeCall_set_1 (.ref l)
 obtain⟨c,tl,a6⟩:=F.called_set.mro
 refine wpAny_call (codeAny_of_tree ?_)
 refine wpAny_pure ⟨Code.quiet_builtin _ (by decide +kernel),codeAny_builtin F.entry_type_call ?_⟩
 rw[Around.under_plain (weight_type_call_type "set" [.ref l] []) rfl]
 repeat (any_goals (first|assumption|wp_step))
 have mk:=pq (prog:=prog) (w:=w) (A:=A.in1) (s:=s) (.ref l) (E:=E) (Q₁:=fun obj s1=>∃led,(w.params.followText "set-order" = false->led=true)/\obj = .ref s.heap.objs.size/\s1={ s with heap:=s.heap.push (bZ led) }) fun led vz=>⟨led,vz,rfl,rfl⟩
 refine codeAny_mono mk fun r s1 hr =>?_
 cases r with
 | error e=>exact hr
 | ok fl=>
  cases fl with
  | ret obj=>
   obtain⟨led,vz,rfl,rfl⟩:=hr
   have b1:Shared.TypeIs { s with heap:=s.heap.push (bZ led) } (.ref s.heap.objs.size) "set":=⟨_,Jv _ rfl,rfl⟩
   have b2:=F.called_set.init.lookup
   have b3:=F.called_set.init.bind (.ref s.heap.objs.size)
   repeat (any_goals (first|assumption|wp_step))
   refine tY vz (A:=A.in1) (by simp[hh]) hl ks hv hb fun h' tk hK old =>?_
   refine wpAny_pure ?_
   exact wpAny_pure (fin h' tk hK old)
  | _=>exact hr.elim
end
section
variable {X:Cx}
theorem uO (hc:X.calm=true):cn X (.type "set") (fun xs H Q=>∃(p:Addr) (zs:List Str),xs=[.ref p]/\aE X.K H p (zs.map V.str)/\zs.length<=4000/\∀(a:Addr) (H':Hp),dz H a (vZ (zG X.prog X.w) a (ow zs)) H'->Q (.ref a) H'):=by
 intro pins s σ H xs us Q I r h
 obtain⟨p,zs,rfl,hq,hl,q⟩:=h
 obtain⟨u,rfl,ru⟩:=vals1 r
 cases ru
 obtain⟨av,rv,pl,hz⟩:=I.list hq
 have hn:av.length=zs.length:=by have:=rv.length;rw[Ja] at this;exact this.symm
 refine uZ (knd:=strKind X.prog X.w) (I.ok.hd hc) pl.isList (fun i=>zs.getD i Str.empty) (fun i v e =>?_) (by rw[Jl,hn];unfold scanBound;omega) fun h' tk hK old =>?_
 ·obtain⟨y,h1,h2⟩:=fj rv e
  rw[Jj] at h1
  cases e1:zs[i]? with
  | none=>rw[e1] at h1;cases h1
  | some z=>
   rw[e1] at h1;cases h1
   obtain⟨t,rfl⟩:=h2
   have:zs.getD i Str.empty=z:=by simp[List.getD,e1]
   exact⟨by rw[this];exact strKind_is _ _ _ _,rfl⟩
 ·have en:av.toArray.size=zs.length:=by rw[Jl,hn]
  rw[en] at hK
  exact⟨.ref _,_,I.laid (o:=vZ (zG X.prog X.w) s.heap.objs.size (ow zs)) (t':=tk) old (Jd _) (yr hK),rfl,q _ _ ⟨I.aZ.fresh (Jd _),rfl⟩⟩
theorem pS:∀{vs:List Value},(∀v∈vs,∃k t,v = .str k t)->∃ns,StrsAre vs ns/\∀k,k∈ns ↔ ∃t,Value.str k t∈vs
 | [],_=>⟨[],.nil,fun k=>⟨(fun h=>nomatch h),(fun⟨_,h⟩=>nomatch h)⟩⟩
 | v::vs,h=>by
  obtain⟨ns,h1,h2⟩:=pS (vs:=vs) fun u hu=>h u (Jp _ hu)
  obtain⟨k,t,rfl⟩:=h v Jn
  refine⟨k::ns,.cons k t h1,fun j=>⟨fun hj =>?_,fun⟨u,hu⟩=>?_⟩⟩
  ·rcases Um.mp hj with rfl|hj
   ·exact⟨t,Jn⟩
   ·obtain⟨u,hu⟩:=(h2 j).mp hj
    exact⟨u,Jp _ hu⟩
  ·rcases Um.mp hu with e|hu
   ·cases e;exact Jn
   ·exact Jp _ ((h2 j).mpr ⟨u,hu⟩)
theorem vg:∀{vs:List Value} {ns:List Str},StrsAre vs ns->vs.length=ns.length:=by
 intro vs ns h
 induction h with
 | nil=>rfl
 | cons _ _ _ ih=>rw[Jx,Jx,ih]
theorem rn (hc:X.calm=true):cn X (.builtin "sorted") (fun xs H Q=>∃(a:Addr) (D:List Str),xs=[.ref a]/\H a=some (vZ (zG X.prog X.w) a D)/\D.Nodup/\D.length<64 /\
  ∀(ms:List Str) (q:Addr) (H':Hp),ms.Perm D->dz H q (.lst (ms.map V.str)) H'->Q (.ref q) H'):=by
 intro pins s σ H xs us Q I r h
 obtain⟨a,D,rfl,ha,nd,hl,q⟩:=h
 obtain⟨u,rfl,ru⟩:=vals1 r
 cases ru
 obtain⟨HK,o',es',ep',t',rB,hd',g',l'⟩:=(show bo X.prog X.w H s.heap a (vZ (zG X.prog X.w) a D) from I.aZ a _ ha).1
 obtain⟨o,es,ep,t,ho,ex,hd,el,mem,bnd,fit,len⟩:=id HK
 obtain⟨g,l⟩:cK t/\(X.w.params.followText "set-order" = false->t.led=true):=by
  rw[ho] at rB;cases rB
  rw[hd] at hd';cases hd'
  exact⟨g',l'⟩
 refine Calls.call_function_entry kind_sorted plain_sorted entry_sorted (args_sorted1 _) ?_
 unfold Builtin.«sorted»
 refine wpAny_bind (m:=checkCount "sorted" 1 1 _) (wpAny_pure ?_)
 refine wpAny_bind (pT (A:=X.A.in1) (show X.A.in1.handled=none from I.ok.hd hc) ho ex hd fit g l (fits_of_scanBound bnd) fun h1 tk d vals hle k1 pm =>?_)
 have hv:∀v∈vals,∃k t,v = .str k t:=fun v hv=>by
  obtain⟨e,he,rfl⟩:=J1.mp (pm.mem_iff.mp hv)
  obtain⟨⟨k,hk,_⟩,_⟩:=el e he
  obtain⟨t,ht⟩:=Value.isStrOf_shape hk
  exact⟨k,t,ht⟩
 obtain⟨ns,hI,AE⟩:=pS hv
 have hlen:vals.length=D.length:=by rw[pm.length_eq,Ja,Jw,len]
 have P2:=vg hI
 have pD:Ya ns D:=jA nd (fun k hk=>by
  obtain⟨e,he,h2⟩:=(mem k).mp (decide_eq_true hk)
  obtain⟨t,ht⟩:=Value.isStrOf_shape h2
  exact(AE k).mpr ⟨t,by rw[<-ht];exact pm.mem_iff.mpr (J1.mpr ⟨e,he,rfl⟩)⟩) (by omega)
 refine wpAny_bind (wpAny_newList ?_ (Js (show vals.length<=64 by omega) (by decide)))
 have ob:(h1.push (seqObj "list" vals.toArray 0)).get? h1.objs.size=some (seqObj "list" vals.toArray 0):=Jv _ rfl
 refine wpAny_bind (wpAny_holding (wpAny_call_entry slot_list_sort ⟨_,ob,rfl⟩ entry_list_sort (list_sort_treeK PyProof.Rows.strKind_oneLt ob hI.keysOf (fun v₁ v₂ rest e=>keyKind_strs (by rw[<-e];exact hI)) (by omega) fun aD hp hs=>⟨_,rfl,wpAny_pure ⟨_,rfl,?_⟩⟩) (args_list_sort _)))
 obtain⟨ms,a1,a2,a3⟩:=sorted_out_str hI hp hs
 generalize (arrOf aD).map (·.2)=out at a1 ⊢
 obtain⟨e,he⟩:=sortedHeap_at (out:=out) ob
 have hm:ms.length=D.length:=(a2.trans pD).length_eq
 have hr:=mR a1
 have kk:∀b o,s.heap.get? b=some o->(sortedHeap (h1.push (seqObj "list" vals.toArray 0)) h1.objs.size vals out).get? b=some o:=fun b CH x=>by
  have x1:=k1 b CH x
  rw[sortedHeap_old (J8 (Jo x1)) (by rw[size_push'];exact Wr (Jo x1)),Heap.get?_push_ne _ _ _ (J8 (Jo x1))]
  exact x1
 refine⟨.ref h1.objs.size,_,(I.laid (a:=h1.objs.size) (o := .lst (ms.map V.str)) (t':=tk) kk hle ⟨?_,out.toList,e,hr,?_⟩).drawn d,rfl,q ms _ _ (a2.trans pD) ⟨I.aZ.fresh hle,rfl⟩⟩
 ·rw[Ja];exact Js (show ms.length<=64 by omega) (by decide)
 ·simpa [seqObj] using he
theorem zz:ur X "list.remove" (fun x vs H Q=>∃(l:Addr) (xs:List Str) (y:Str),x = .ref l/\vs=[.str y]/\H l=some (.lst (xs.map V.str))/\y∈xs/\∀H',lj H l (.lst ((xs.erase y).map V.str)) H'->Q .non H'):=by
 intro pins s σ H x vs v us Q I rx rv h
 obtain⟨l,xs,y,rfl,rfl,hH,hy,q⟩:=h
 cases rx
 obtain⟨u,rfl,ru⟩:=vals1 rv
 obtain⟨t,rfl⟩:=ru
 obtain⟨z,av,n,r,hl,e⟩:=I.jN hH
 have hlen:=r.length
 rw[Ja] at hlen
 obtain⟨j,hj⟩:∃j,j=xs.idxOf y:=⟨_,rfl⟩
 have jl:j<xs.length:=by rw[hj];exact List.idxOf_lt_length_iff.mpr hy
 have jy:xs[j]=y:=by simp only[hj];exact List.getElem_idxOf (by rw[<-hj];exact jl)
 have jn:∀m (hm:m<xs.length),m<j->xs[m]≠y:=fun m hm hmj w=>by
  have:m<List.findIdx (· == y) xs:=by rw[hj] at hmj;exact hmj
  have:=List.not_of_lt_findIdx this
  rw[w] at this
  simp at this
 let ev:Value->Bool:=fun u=>match u with | .str a _=>a==y|_=>false
 have at':∀m (hm:m<av.length),∃t',av[m] = .str (xs[m]'(by omega)) t':=fun m hm=>by
  obtain⟨a,h1,h2⟩:=fj r (i:=m) (v:=av[m]) (by simp[hm])
  rw[Jj,Jf (by omega)] at h1
  cases h1
  exact h2
 refine call_meets F.slot_list_remove ⟨_,e,rfl⟩ F.entry_list_remove (F.args_list_remove_2 _ _) (MeetsSeq.list_remove l av.toArray n (.str y t) ev (fun w hw =>?_) j (by rw[Jl];omega) ?_ ?_ (by rw[Jl];omega)) ⟨e,?_⟩
 ·have hw:w∈av:=by simpa using hw
  obtain⟨i,hi,ew⟩:=U2.mp hw
  obtain⟨t',e'⟩:=at' i hi
  rw[<-ew,e']
  have z:=SeqRoads2.EqGives.str (xs[i]'(by omega)) y t' t
  rw[show((xs[i]'(by omega)).cps.toList==y.cps.toList)=((xs[i]'(by omega))==y) from by rw[Bool.eq_iff_iff,beq_iff_eq,beq_iff_eq,Array.toList_inj];exact⟨fun q=>by generalize xs[i]'(by omega)=x at q ⊢;cases x;cases y;simp_all,fun q=>by rw[q]⟩] at z
  exact z
 ·obtain⟨t',e'⟩:=at' j (by omega)
  show ev av[j]=true
  rw[e']
  show(xs[j]==y)=true
  rw[jy];simp
 ·intro m hm hmj
  have rN:m<av.length:=by rw[Jl] at hm;exact hm
  obtain⟨t',e'⟩:=at' m rN
  show ev av[m]=false
  rw[e']
  show(xs[m]==y)=false
  simpa using jn m (by omega) hmj
 ·have ex:(xs.map V.str).eraseIdx j=(xs.erase y).map V.str:=by
   rw[List.erase_eq_eraseIdx_of_idxOf (i:=j) hj.symm,Yn,Yn,Jh,List.map_take,List.map_drop]
  refine⟨.non,_,I.qx (ys:=(xs.map V.str).eraseIdx j) (its':=av.eraseIdx j) hH e ?_ (kD j r) (by rw[List.length_eraseIdx];split<;>omega),rfl,?_⟩
  ·simp[Array.eraseIdxIfInBounds,show j<av.length by omega]
  ·exact q _ ⟨by rw[ex]⟩
end
end L2
namespace Z
open PySem L2
noncomputable def top (i:Nat):Stmt:=PySem.Challenge.pw_oddlong_k60_readings_that_never_meet.main.body.getD i (.Pass ⟨0,0,0,0⟩)
noncomputable abbrev ja:Nat:=1
noncomputable abbrev fZ:Nat:=2
noncomputable abbrev dQ:Nat:=3
noncomputable abbrev gb:Nat:=4
noncomputable abbrev eS:Nat:=5
noncomputable abbrev B7:Nat:=7
noncomputable abbrev Ga:Nat:=8
noncomputable abbrev jf:Nat:=10
noncomputable abbrev jh:Nat:=11
noncomputable abbrev ji:Nat:=13
noncomputable abbrev fK:Nat:=14
noncomputable abbrev eQ:Nat:=15
noncomputable abbrev gE:Nat:=16
noncomputable abbrev dW:Nat:=17
noncomputable abbrev fw:Nat:=19
noncomputable abbrev gz:Nat:=20
noncomputable abbrev gq:Nat:=22
noncomputable abbrev iA:Nat:=23
noncomputable abbrev gM:Nat:=24
noncomputable abbrev ip:Nat:=25
noncomputable abbrev gI:Nat:=26
noncomputable abbrev ij:Nat:=27
noncomputable abbrev gC:Nat:=28
noncomputable abbrev gu:Nat:=29
noncomputable abbrev fz:Nat:=30
noncomputable abbrev fv:Nat:=31
noncomputable abbrev eO:Nat:=32
noncomputable abbrev iT:Nat:=33
theorem sizeOk {n:Nat}(h:n<=10000000):n<=sizeLine:=Js h (by decide)
theorem dX (l:List Str)(h:decide l.Nodup=true:=by decide +kernel):l.Nodup:=of_decide_eq_true h
end Z
namespace L2
set_option genSizeOf false
set_option genInjectivity false
inductive JZ {α0 α1 α2 α3 α4 α5 α6:Type}(P: α0 -> α1 -> α2 -> α3 -> α4 -> α5 -> α6->Prop):Prop|mk (x0: α0) (x1: α1) (x2: α2) (x3: α3) (x4: α4) (x5: α5) (x6: α6) (h:P x0 x1 x2 x3 x4 x5 x6):JZ P
instance GZ {α0 α1 α2 α3 α4 α5 α6:Type} {P: α0 -> α1 -> α2 -> α3 -> α4 -> α5 -> α6->Prop} {F: α0 -> α1 -> α2 -> α3 -> α4 -> α5 -> α6->Prop->Prop} [i:∀x0 x1 x2 x3 x4 x5 x6,ae (P x0 x1 x2 x3 x4 x5 x6) (F x0 x1 x2 x3 x4 x5 x6)]:ae (JZ P) (fun G=>∀x0 x1 x2 x3 x4 x5 x6,F x0 x1 x2 x3 x4 x5 x6 G):=⟨fun⟨x0,x1,x2,x3,x4,x5,x6,h⟩ G k=>(i x0 x1 x2 x3 x4 x5 x6).el h G (k x0 x1 x2 x3 x4 x5 x6)⟩
set_option genSizeOf false
set_option genInjectivity false
end L2
namespace Z
open PySem L2
structure pW (H:Hp)(b c:Addr)(t:Int)(ns:List Int)(ex:List (Key×V)):Prop where
 d:H b=some (.dK ((.inr "cells",.ref c)::(.inr "turn",.int t)::ex))
 xl:ex=[]∨ex=[(.inr "great",.int 1)]
 l:H c=some (.lst (ns.map V.int))
 ne:0<ns.length
 le:ns.length<=64
noncomputable def kZ (H:Hp)(b c:Addr):Hp:=fun a=>if a=b∨a=c then none else H a
theorem jj {H:Hp}{b c a:Addr}(h1:a≠b)(h2:a≠c):kZ H b c a=H a:=if_neg (fun z=>z.elim h1 h2)
theorem kJ {H:Hp}{b c a:Addr}{o:HO}(h:kZ H b c a=some o):H a=some o/\a≠b/\a≠c:=by
 unfold kZ at h
 split at h
 ·cases h
 ·rename_i n
  exact⟨h,fun z=>n (.inl z),fun z=>n (.inr z)⟩
theorem pW.bc {H:Hp}{b c:Addr}{t:Int}{ns:List Int}{ex:List (Key×V)}(x:pW H b c t ns ex):b≠c:=wq x.d x.l (by intro z;cases z)
theorem pW.vN {H:Hp}{b c:Addr}{t:Int}{ns:List Int}{ex:List (Key×V)}(x:pW H b c t ns ex):dR H b (.str "turn") (some (.int t)):=dR.k (k:=Sum.inr "turn") x.d
theorem pW.jw {H:Hp}{b c:Addr}{t:Int}{ns:List Int}{ex:List (Key×V)}(x:pW H b c t ns ex):dR H b (.str "cells") (some (.ref c)):=dR.k (k:=Sum.inr "cells") x.d
theorem pW.xv {H:Hp}{b c:Addr}{t:Int}{ns:List Int}{ex:List (Key×V)}(x:pW H b c t ns ex)(t':Int):iW H b (.str "turn") (.int t') (upd H b (.dK ((.inr "cells",.ref c)::(.inr "turn",.int t')::ex))):=
 by
 rcases x.xl with h|h
 ·subst h;exact iW.k (k:=Sum.inr "turn") x.d (by show 2<sizeLine;decide)
 ·subst h;exact iW.k (k:=Sum.inr "turn") x.d (by show 3<sizeLine;decide)
theorem pW.turned {H:Hp}{b c:Addr}{t:Int}{ns:List Int}{ex:List (Key×V)}(x:pW H b c t ns ex)(t':Int):pW (upd H b (.dK ((.inr "cells",.ref c)::(.inr "turn",.int t')::ex))) b c t' ns ex:=
 ⟨aJ,x.xl,by rw[aq (Ne.symm x.bc)];exact x.l,x.ne,x.le⟩
theorem mK {H:Hp}{b c:Addr}{o:HO}:kZ (upd H b o) b c=kZ H b c:=by
 funext a;unfold kZ;split
 ·rfl
 ·rename_i n;exact aq (fun z=>n (.inl z))
theorem uu {H:Hp}{b c:Addr}{o:HO}:kZ (upd H c o) b c=kZ H b c:=by
 funext a;unfold kZ;split
 ·rfl
 ·rename_i n;exact aq (fun z=>n (.inr z))
def nF:Sp:=fun vs H Q _=>zW fun(b c:Addr) (t:Int) (ns:List Int) (many:Int) (ex:List (Key×V))=>vs=[.ref b,.int many]/\pW H b c t ns ex/\0<=t/\t<100000000/\0<many/\many<1073741824 /\
 ∀(r:Int) (H':Hp) (zg:List Int),0<=r->r<many->pW H' b c (t+1) zg ex->aw (kZ H b c) (kZ H' b c)->Q (.int r) H'
theorem at_of {ns:List Int}{p:Int}(h0:0<=p)(h1:p<ns.length):∃v,nY (ns.map V.int) p=some (.int v)/\ns[p.toNat]? = some v:=by
 have hk:p.toNat<ns.length:=by omega
 have ek:p=((p.toNat:Nat):Int):=by omega
 have q:nY (ns.map V.int) ((p.toNat:Nat):Int)=some (.int ns[p.toNat]):=nB (by rw[Jj,Jf hk]<;>rfl)
 rw[<-ek] at q
 exact⟨_,q,Jf hk⟩
theorem Ca {a j m:Int}(h0:0<m)(h:m<2^64):rO (a%m) j:=by
 have h1:=Int.emod_nonneg a (b:=m) (by omega)
 have h2:=Int.emod_lt_of_pos a h0
 exact .inl ⟨by omega,by omega⟩
theorem C4 {n:Nat}{p:Int}(h0:0<=p)(h1:p<n):wN n p=some p.toNat:=by unfold wN;rw[if_pos h0,if_pos h1]
theorem kY {H H':Hp}{b c:Addr}(h:∀a o,a≠b->a≠c->H a=some o->H' a=some o):aw (kZ H b c) (kZ H' b c):=fun a o e=>by
 refine ae.el (kJ e) _ ?_
 rintro e h1 h2
 rw[jj h1 h2]
 exact h a o h1 h2 e
end Z
namespace L2
open PySem
def Gm (t:TG):Prop:=∀x σ H (Q Q':St->Hp->Prop),(∀a b,Q a b->Q' a b)->t x σ H Q->t x σ H Q'
def G1 (t:sN):Prop:=∀x σ H (Q Q':St->Hp->Prop),(∀a b,Q a b->Q' a b)->t x σ H Q->t x σ H Q'
theorem aF {i:Nat}:Gm (di i):=fun _ _ _ _ _ h q=>h _ _ q
theorem aX:G1 qV:=fun _ _ _ _ _ h q=>⟨q.1,h _ _ q.2⟩
theorem bf {t:TG}{u:sN}(a:Gm t)(b:G1 u):G1 (gw t u):=fun _ _ _ _ _ h ⟨v,r,e,q⟩=>⟨v,r,e,a _ _ _ _ _ (fun _ _ z=>b _ _ _ _ _ h z) q⟩
theorem wg {K:Jb}{n:Nat}{t:sN}(a:G1 t):Gm (pC K n t):=fun _ _ _ _ _ h ⟨v,r,e,h1,h2,q⟩=>⟨v,r,e,h1,h2,a _ _ _ _ _ h q⟩
theorem aL.get {K:Jb}{H:Hp}:∀{ds:List PyData} {vs:List V} {i:Nat} {d:PyData},aL K H ds vs->ds[i]? = some d->∃v,vs[i]? = some v/\Den K H d v
 | [],_,_,_,_,e=>by simp at e
 | d::ds,vs,i,d',h,e=>by
  unfold aL at h
  obtain⟨v,r,rfl,h1,h2⟩:=h
  cases i with
  | zero=>cases e;exact⟨v,rfl,h1⟩
  | succ i=>exact aL.get (i:=i) h2 e
theorem aL.len {K:Jb}{H:Hp}:∀{ds:List PyData} {vs:List V},aL K H ds vs->vs.length=ds.length
 | [],_,h=>by unfold aL at h;subst h;rfl
 | d::ds,vs,h=>by
  unfold aL at h
  obtain⟨v,r,rfl,h1,h2⟩:=h
  rw[Jx,Jx,aL.len h2]
theorem Den.pair {K:Jb}{H:Hp}{a b:Str}{v:V}(h:Den K H (.tuple [.str a,.str b]) v):∃p,v = .ref p/\d9 K H p [.str a,.str b]:=by
 unfold Den at h
 obtain⟨p,vs,e,h1,h2⟩:=h
 unfold aL at h2
 obtain⟨v1,r1,rfl,d1,h2⟩:=h2
 unfold aL at h2
 obtain⟨v2,r2,rfl,d2,h2⟩:=h2
 unfold aL at h2
 subst h2
 unfold Den at d1 d2
 subst d1 d2
 exact⟨p,e,h1⟩
end L2
namespace Z
open PySem L2
theorem bS {H:Hp}{p:Addr}(h:H p=none)(o:HO):aw H (upd H p o):=fun b u q=>by rw[aq (aj q h)];exact q
end Z
namespace L2
open PySem
theorem eJ {J:It}{g:TG}{tb:TS}{D:Ends}{σ:St}{H:Hp}(N:Nat)(Pv:Nat->St->Hp->Prop)(h0:Pv 0 σ H)
  (go:∀i σ H,i<N->Pv i σ H->J.go i H/\∀x H',J.yld i H x H'->g x σ H' fun σ2 H2=>tb { D with nx:=Pv (i+1),ct:=Pv (i+1),bk:=D.nx } σ2 H2)
  (stop:∀ σ H,Pv N σ H->J.stop N H/\D.nx σ H) :
  ∃W:Nat->Nat->St->Hp->Prop,(∃m,W 0 m σ H)/\∀i m σ H,W i m σ H ->
   (J.stop i H/\D.nx σ H)∨(J.go i H/\∃N:St->Hp->Prop,(∀ σ' H',N σ' H'->∃m',m'<m/\W (i+1) m' σ' H')/\∀x H',J.yld i H x H'->g x σ H' fun σ2 H2=>tb { D with nx:=N,ct:=N,bk:=D.nx } σ2 H2):=by
 refine⟨fun i m σ H=>m=N-i/\i<=N/\Pv i σ H,⟨N,by simp,Uq _,h0⟩,?_⟩
 intro i m σ H
 refine ae.go ?_
 rintro rfl hi p
 by_cases cc:i<N
 ·obtain⟨g1,g2⟩:=go i σ H cc p
  exact .inr ⟨g1,Pv (i+1),fun σ' H' p'=>⟨N-(i+1),by omega,rfl,cc,p'⟩,g2⟩
 ·have e:i=N:=by omega
  subst e
  exact .inl (stop σ H p)
theorem cb {t u:TS}{D:Ends}{σ:St}{H:Hp}(Ex:St->Hp->Prop)(h:∀Nx:St->Hp->Prop,(∀ σ H,Ex σ H->Nx σ H)->t { D with nx:=Nx } σ H)(fin:∀ σ H,Ex σ H->u D σ H):CV t u D σ H:=h (u D) fin
theorem iG {c:TT}{tb:TS}{D:Ends}{σ:St}{H:Hp}(Pv:Nat->St->Hp->Prop)(h0:∃m,Pv m σ H)
  (hs:∀m σ H,Pv m σ H->c σ H fun b H1=>if b=true then ∃N:St->Hp->Prop,(∀ σ' H',N σ' H'->∃m',m'<m/\Pv m' σ' H')/\tb { D with nx:=N,ct:=N,bk:=D.nx } σ H1 else D.nx σ H1):ig c tb D σ H:=⟨Pv,h0,hs⟩
theorem cj {te:TE}{g:TG}{u:TS}{D:Ends}{σ:St}{H:Hp}(Ex:V->Hp->Prop)(h:∀Qn:VK,(∀v H,Ex v H->Qn v H)->te σ H Qn)(fin:∀v H,Ex v H->g v σ H (u D)):CV (u3 te g) u D σ H:=h _ fin
theorem Cq {te:TE}{g:TG}{D:Ends}{σ:St}{H:Hp}(Ex:V->Hp->Prop)(h:∀Qn:VK,(∀v H,Ex v H->Qn v H)->te σ H Qn)(fin:∀v H,Ex v H->g v σ H D.nx):u3 te g D σ H:=h _ fin
theorem gn {i:Nat}{v:V}{σ:St}{H:Hp}{Q:St->Hp->Prop}(h:Q (σ.set i (some v)) H):di i v σ H Q:=h
end L2
namespace Z
open PySem L2
def Bx (H:Hp)(b c:Addr)(t:Int):Prop:=ck fun(ns:List Int) (ex:List (Key×V))=>pW H b c t ns ex
structure Step (b c:Addr)(H H':Hp)(t t' N:Int):Prop where
 le:t<=t'
 ub:t'<=t+N
 bx:Bx H' b c t'
 sm:aw (kZ H b c) (kZ H' b c)
theorem Step.refl {b c:Addr}{H:Hp}{t:Int}(h:Bx H b c t):Step b c H H t t 0:=⟨Yo _,by omega,h,aw.refl _⟩
theorem Step.trans {b c:Addr}{H H' H2:Hp}{t t' t2 N M:Int}(x:Step b c H H' t t' N)(y:Step b c H' H2 t' t2 M):Step b c H H2 t t2 (N+M):=
 ⟨by have:=x.le;have:=y.le;omega,by have:=x.ub;have:=y.ub;omega,y.bx,x.sm.trans y.sm⟩
theorem Step.more {b c:Addr}{H H':Hp}{t t' N M:Int}(x:Step b c H H' t t' N)(h:N<=M):Step b c H H' t t' M:=⟨x.le,by have:=x.ub;omega,x.bx,x.sm⟩
theorem Bx.bX {H:Hp}{b c p:Addr}{t:Int}(x:Bx H b c t)(h:H p=none):p≠b/\p≠c:=by
 obtain⟨ns,ex,x⟩:=x
 exact⟨fun z=>(by rw[z,x.d] at h;cases h),fun z=>(by rw[z,x.l] at h;cases h)⟩
theorem Bx.upd {H:Hp}{b c p:Addr}{t:Int}{o:HO}(x:Bx H b c t)(h1:p≠b)(h2:p≠c):Bx (upd H p o) b c t:=by
 obtain⟨ns,ex,x⟩:=x
 exact⟨ns,ex,by rw[aq (Ne.symm h1)];exact x.d,x.xl,by rw[aq (Ne.symm h2)];exact x.l,x.ne,x.le⟩
theorem Step.new {b c p:Addr}{H H':Hp}{t t' N:Int}(x:Step b c H H' t t' N)(h:H' p=none)(o:HO):Step b c H (upd H' p o) t t' N:=
 ⟨x.le,x.ub,x.bx.upd (x.bx.bX h).1 (x.bx.bX h).2,x.sm.trans (kY fun a u _ _ e=>by rw[aq (aj e h)];exact e)⟩
theorem Step.chg {b c p:Addr}{H H':Hp}{t t' N:Int}(x:Step b c H H' t t' N)(h:H p=none)(h1:p≠b)(h2:p≠c)(o:HO):Step b c H (upd H' p o) t t' N:=
 ⟨x.le,x.ub,x.bx.upd h1 h2,fun a u e=>by
  have q:=x.sm a u e
  refine ae.el (kJ q) _ ?_
  rintro q n1 n2
  rw[jj n1 n2,aq (fun z =>?_)]
  ·exact q
  ·rw[z] at e
   rw[(kJ e).1] at h;cases h⟩
theorem Step.old {b c a:Addr}{H H':Hp}{t t' N:Int}{o:HO}(x:Step b c H H' t t' N)(h:H a=some o)(h1:a≠b)(h2:a≠c):H' a=some o:=
 (kJ (x.sm a o (by rw[jj h1 h2];exact h))).1
theorem Step.fresh {b c a:Addr}{H H':Hp}{t t' N:Int}(x:Step b c H H' t t' N)(hb:Bx H b c t)(h:H' a=none):H a=none:=by
 obtain⟨h1,h2⟩:=x.bx.bX h
 cases e:H a with
 | none=>rfl
 | some o=>rw[x.old e h1 h2] at h;cases h
theorem aw.kZ {H H':Hp}{b c:Addr}(s:aw H H'):aw (kZ H b c) (kZ H' b c):=kY fun a o _ _ e=>s a o e
theorem Bx.same {H H':Hp}{b c:Addr}{t:Int}(x:Bx H b c t)(s:aw H H'):Bx H' b c t:=by
 obtain⟨ns,ex,x⟩:=x
 exact⟨ns,ex,s _ _ x.d,x.xl,s _ _ x.l,x.ne,x.le⟩
theorem Step.same {b c:Addr}{H H':Hp}{t:Int}(x:Bx H b c t)(s:aw H H'):Step b c H H' t t 0:=⟨Yo _,by omega,x.same s,aw.kZ s⟩
def uD:Sp:=fun vs H Q _=>om fun(b c:Addr) (t many:Int)=>vs=[.ref b,.int many]/\Bx H b c t/\0<=t/\t<100000000/\0<many/\many<1073741824 /\
 ∀(r:Int) (H':Hp),0<=r->r<many->Step b c H H' t (t+1) 1->Q (.int r) H'
theorem zd {vs:List V}{H:Hp}{Q:VK}{E:XK}(h:uD vs H Q E):nF vs H Q E:=by
 obtain⟨b,c,t,many,e,⟨ns,ex,bx⟩,h1,h2,h3,h4,q⟩:=h
 exact⟨b,c,t,ns,many,ex,e,bx,h1,h2,h3,h4,fun r H' zg r0 r1 bx' sm=>q r H' r0 r1 ⟨by omega,by omega,⟨zg,ex,bx'⟩,sm⟩⟩
theorem Cg (vs:List V)(j:Nat):lz vs none (some (j:Int))=vs.take j:=by
 unfold lz
 rw[HT.pY,HT.sr,List.drop_zero,Nat.sub_zero]
 rcases Nat.le_total j vs.length with h|h
 ·rw[Ye h]
 ·rw[Nat.min_eq_right h,U9 (Jd _),U9 h]
theorem vL (vs:List V)(j:Nat):lz vs (some (j:Int)) none=vs.drop j:=by
 unfold lz
 rw[HT.pY,HT.sr]
 rcases Nat.le_total j vs.length with h|h
 ·rw[Ye h,U9 (by rw[J9];exact Jd _)]
 ·rw[Nat.min_eq_right h,List.drop_of_length_le (Jd _),List.drop_of_length_le h];simp
theorem Fn.imp {P:Program}{w:World}{K:Jb}{mg:Str->Option Value}{base:Heap}{k:Nat}{x:Str}{ps:List Str}{sp Dw:Sp}(F:Fn P w K mg base k x ps sp)(h:∀vs H Q E,Dw vs H Q E->sp vs H Q E):Fn P w K mg base k x ps Dw:=by
 refine ae.el (F.ex) _ ?_
 rintro f fd a b c d
 exact⟨f,fd,a.imp h,b,c,d⟩
theorem Step.d5 {b c p:Addr}{H H' H2:Hp}{t t' N:Int}{o:HO}(x:Step b c H H' t t' N)(n:dz H' p o H2):Step b c H H2 t t' N:=by rw[n.eq];exact x.new n.nn _
theorem Step.zY {b c p:Addr}{H H' H2:Hp}{t t' N:Int}{o:HO}(x:Step b c H H' t t' N)(n:lj H' p o H2)(h:H p=none)(h1:p≠b)(h2:p≠c):Step b c H H2 t t' N:=by rw[n.eq];exact x.chg h h1 h2 _
theorem pW.same {H H':Hp}{b c:Addr}{t:Int}{ns:List Int}{ex:List (Key×V)}(x:pW H b c t ns ex)(s:aw H H'):pW H' b c t ns ex:=⟨s _ _ x.d,x.xl,s _ _ x.l,x.ne,x.le⟩
section
variable {P:Program}{w:World}{K:Jb}{mg:Str->Option Value}{base:Heap}{f:Addr}{fd:FuncData}
theorem cv:aO ["_law_state", "_law_many", "_law_turn", "_law_place", "_law_cell", "_law_digit", "_law_mixed"] ["_law_state", "_law_many"] (aB (top iA)):=⟨rfl,rfl,rfl,by decide +kernel,rfl,by decide +kernel,by decide +kernel⟩
theorem zt (F:dh K "_law_take" "_law_take" (top iA) f fd)(T:Nm mg):bM P w K mg base gU 1 f fd ["_law_state", "_law_many"] nF:=by
 refine F.ok cv (fun vs H Q E h =>?_) (fun dG A outer s H vs Q E hr h =>?_)
 ·obtain⟨b,c,t,ns,many,ex,rfl,_⟩:=h
  rfl
 unfold nF at h
 refine ae.el h _ ?_
 clear h
 rintro b c t ns many ex rfl bx t0 t1 m0 m1 q
 have hu:=eY hr
 refine⟨_,(ah (aI (i:=2) cv.nd rfl (Or.inl rfl) (aU dN (cu hu (pv 0) bb (fun _ _=>rfl)) ao))
  (ah (jS hu (pv 0) bb (pv 2) rfl)
  (ah (aI (i:=3) cv.nd rfl (Or.inl rfl) (aU fC (pv 2) (au (dv K) rfl T.n_len (by rfl) (aa (cu hu (pv 0) bb (fun _ _=>rfl)) ag))))
  (ah (aI (i:=4) cv.nd rfl (Or.inl rfl) (bK (i9 K) (cu hu (pv 0) bb (fun _ _=>rfl)) (pv 3) (fun _ _=>rfl)))
  (ah (bV (aG E7 (pv 4) (aU CG ao ao) (aM _)) (ah (fq (au yX rfl T.n_divmod (by rfl) (aa (pv 4) (aa (pv 1) ag))) (tupK K 2 rfl (ar (BH (cu hu (pv 0) bb (fun _ _=>rfl)) (pv 3) set_list) (ar (ai (i:=5) cv.nd rfl (Or.inl rfl)) bt))))
  (ak (aK (pv 5)))) aW)
  (ah (aI (i:=6) cv.nd rfl (Or.inl rfl) (aU fC (aU nq (aU dN (aU dN (aU fC (pv 4) ao) (aU nq (aU nq (pv 2) (pv 2)) ao)) ao) ao) ao))
  (ah (aI (i:=6) cv.nd rfl (Or.inl rfl) (aU fC (aU nq (pv 6) (pv 6)) ao))
  (ak (aK (aU fC (aU zJ (aU fC (aU nq (aU dN (pv 6) (aU nq (pv 2) ao)) ao) ao) ao) (pv 1))))))))))),?_⟩
 refine⟨_,rfl,b,_,rfl,bx.vN,.inl ⟨_,_,rfl,rfl,?_⟩⟩
 refine⟨_,rfl,_,rfl,b,_,rfl,bx.xv (t+1),?_⟩
 have uP:=bx.turned (t+1)
 refine⟨_,rfl,_,rfl,b,_,rfl,uP.jw,_,_,rfl,.inl ⟨_,aE.of uP.l,rfl⟩,_,_,rfl,rfl,?_,?_⟩
 ·rw[Ja];have:=uP.ne;omega
 have hlen:(ns.map V.int).length=ns.length:=Ja _
 have sf:0<=(t+1)%((ns.map V.int).length:Int):=Int.emod_nonneg _ (by have:=uP.ne;omega)
 have eU:(t+1)%((ns.map V.int).length:Int)<ns.length:=by rw[hlen];exact Int.emod_lt_of_pos _ (by have:=uP.ne;omega)
 refine ae.el (at_of sf eU) _ ?_
 rintro v hv M5
 refine⟨_,rfl,b,_,rfl,uP.jw,_,rfl,.inl ⟨c,_,_,_,rfl,rfl,aE.of uP.l,hv,?_⟩⟩
 refine⟨_,rfl,_,_,rfl,rfl,⟨by decide,by decide,by decide⟩,_,_,rfl,rfl,_,rfl,?_⟩
 refine ee (fun _ =>?_) (fun _ =>?_)
 ·refine⟨_,rfl,_,rfl,v,many,rfl,⟨m0,by omega⟩,fun pt H2 n2 =>?_⟩
  obtain⟨hpb,hpc⟩:pt≠b/\pt≠c:=⟨fun z=>(by have:=n2.nn;rw[z,uP.d] at this;cases this),fun z=>(by have:=n2.nn;rw[z,uP.l] at this;cases this)⟩
  have CA:=uP.same n2.same
  refine⟨pt,_,rfl,d9.of n2.at,rfl,_,_,rfl,?_⟩
  refine⟨_,rfl,b,_,rfl,CA.jw,_,rfl,c,_,_,_,rfl,rfl,CA.l,C4 sf (by simpa only [hlen] using eU),?_⟩
  refine⟨_,_,rfl,rfl,_,rfl,?_⟩
  refine q (v%many) _ (ns.set ((t+1)%((ns.map V.int).length:Int)).toNat (v / many)) (Int.emod_nonneg _ (by omega)) (Int.emod_lt_of_pos _ m0) ⟨?_,CA.xl,?_,?_,?_⟩ ?_
  ·rw[aq CA.bc];exact CA.d
  ·rw[aJ,List.map_set]
  ·rw[List.length_set];exact uP.ne
  ·rw[List.length_set];exact uP.le
  ·rw[uu]
   refine kY fun a o h1 h2 e =>?_
   rw[n2.ne (fun z =>?_),aq h1]
   ·exact e
   ·have z2:=n2.nn
    rw[aq hpb,<-z,e] at z2
    cases z2
 ·refine⟨_,rfl,_,_,rfl,rfl,(by dsimp only;decide),_,rfl,_,rfl,.inl ⟨_,_,rfl,rfl,.inl ⟨by omega,by omega⟩,.inl ⟨_,_,rfl,rfl,.inr ⟨by decide,by decide⟩,.inl ⟨_,_,rfl,rfl,.inl ⟨_,_,rfl,rfl,.inl ⟨_,_,rfl,rfl,.inr ⟨by decide,by decide⟩,_,_,rfl,rfl,(by dsimp only;decide),?_⟩⟩⟩⟩⟩⟩
  have cm:∀(x y p:Int),0<p->p<2^64->rO (x%p) y:=fun x y p h0 h1=>Ca h0 h1
  refine⟨_,rfl,_,rfl,.inl ⟨_,_,rfl,rfl,cm _ _ _ (by decide) (by decide),?_⟩⟩
  refine⟨_,_,rfl,rfl,(by dsimp only;decide),?_⟩
  refine⟨_,rfl,_,rfl,.inl ⟨_,_,rfl,rfl,.inl ⟨by omega,by omega⟩,.inl ⟨_,_,rfl,rfl,.inl ⟨_,_,rfl,rfl,.inr ⟨by decide,by decide⟩,_,_,rfl,rfl,(by dsimp only;decide),_,_,rfl,rfl,⟨by decide,by decide⟩,_,rfl,_,_,rfl,rfl,m0,?_⟩⟩⟩⟩
  exact q _ _ ns (Int.emod_nonneg _ (by omega)) (Int.emod_lt_of_pos _ m0) uP (by rw[mK];exact aw.refl _)
end
def jJ (x:Str):Prop:=∀c∈x.cps.toList,c=48∨c=49
theorem kL (g:Str):∀(parts:List Str) (acc:Array Nat),(parts.foldl (fun acc p=>acc++g.cps++p.cps) acc).toList=acc.toList++parts.flatMap (fun p=>g.cps.toList++p.cps.toList)
 | [],acc=>by simp
 | p::r,acc=>by rw[List.foldl_cons,kL g r];simp
theorem iu (xs:List Str):(Txt.join "" xs).cps.toList=xs.flatMap (fun p=>p.cps.toList):=by
 cases xs with
 | nil=>rfl
 | cons x r=>
  show((r.foldl (fun acc p=>acc++(Str.ofString "").cps++p.cps) x.cps)).toList=_
  rw[kL]
  have e:(Str.ofString "").cps.toList=[]:=rfl
  simp[e]
noncomputable abbrev Lp:Str := "abcdefghijklmnopqrstuvwxyz"
theorem wG:Lp.cps.toList=(Wf 26).map (97 + ·):=by decide +kernel
theorem xP {r:Int}(h0:0<=r)(h1:r<26):nY Lp.cps.toList r=some (97+r.toNat):=by
 refine ic h0 ?_
 rw[wG,Jj,List.getElem?_range (by omega)]
 rfl
theorem bz (x y:Str):(x++y).cps.toList=x.cps.toList++y.cps.toList:=by
 show(x.cps++y.cps).toList=_
 simp
theorem str_len (x:Str):x.length=x.cps.toList.length:=by simp[Str.length]
theorem dY (x y:Str):(x++y).length=x.length+y.length:=by rw[str_len,bz,Jc,<-str_len,<-str_len]
theorem len_one (ch:Nat):(⟨#[ch]⟩:Str).length=1:=rfl
def Sh (n:Nat)(d:PyData):Prop:=d.canLay0=true/\d.depth<=n
theorem Sh.all {n:Nat}:∀{ds:List PyData},(∀d∈ds,Sh n d)->PyData.canLayAll0 ds=true/\PyData.depthAll ds<=n
 | [],_=>⟨by simp[PyData.canLayAll0],by simp[PyData.depthAll]⟩
 | d::ds,h=>by
  obtain⟨h1,h2⟩:=h d Jn
  obtain⟨h3,h4⟩:=Sh.all fun e he=>h e (Jp _ he)
  exact⟨by simp[PyData.canLayAll0,h1,h3],by simp only[PyData.depthAll];omega⟩
theorem Sh.list {n:Nat}{ds:List PyData}(h:∀d∈ds,Sh n d):Sh (n+1) (.list ds):=by
 obtain⟨h1,h2⟩:=Sh.all h
 exact⟨by simpa [PyData.canLay0] using h1,by simp only[PyData.depth];omega⟩
theorem Sh.tuple {n:Nat}{ds:List PyData}(h:∀d∈ds,Sh n d):Sh (n+1) (.tuple ds):=by
 obtain⟨h1,h2⟩:=Sh.all h
 exact⟨by simpa [PyData.canLay0] using h1,by simp only[PyData.depth];omega⟩
theorem Sh.shaped {n:Nat}{d:PyData}(h:Sh n d)(hn:n<=64):SeqAt.shaped d=true:=by
 unfold SeqAt.shaped
 rw[h.1,decide_eq_true (Js h.2 hn)]
 rfl
theorem Sh.str {n:Nat}{x:Str}(h:PyData.canLay0 (.str x)=true):Sh n (.str x):=⟨h,by simp[PyData.depth]⟩
theorem Sh.int {n:Nat}{i:Int}:Sh n (.int i):=⟨by simp[PyData.canLay0],by simp[PyData.depth]⟩
theorem bW {x:Str}(h:∀ch∈x.cps.toList,ch<128):PyData.canLay0 (.str x)=true:=by
 simp only[PyData.canLay0,PyData.strOk]
 rw[<-Array.all_toList,Y8]
 intro ch hc
 have:=h ch hc
 exact decide_eq_true (by omega)
theorem Den.strs {K:Jb}{H:Hp}:∀(xs:List Str),aL K H (xs.map PyData.str) (xs.map V.str)
 | []=>by unfold aL;rfl
 | x::xs=>by
  rw[Uc]
  unfold aL
  exact⟨_,_,rfl,by unfold Den;rfl,Den.strs xs⟩
theorem Den.list {K:Jb}{H:Hp}{l:Addr}{ds:List PyData}{vs:List V}(h:aE K H l vs)(hd:aL K H ds vs):Den K H (.list ds) (.ref l):=by
 unfold Den
 exact⟨l,vs,rfl,h,hd⟩
theorem aL.of_get {K:Jb}{H:Hp}:∀{ds:List PyData} {vs:List V},ds.length=vs.length->(∀(j:Nat) d v,ds[j]? = some d->vs[j]? = some v->Den K H d v)->aL K H ds vs
 | [],[],_,_=>by unfold aL;rfl
 | [],_::_,h,_=>by simp at h
 | _::_,[],h,_=>by simp at h
 | d::ds,v::vs,h,g=>by
  unfold aL
  exact⟨v,vs,rfl,g 0 d v rfl rfl,aL.of_get (by simpa using h) fun j d' v' h1 h2=>g (j+1) d' v' h1 h2⟩
theorem Den.pairOf {K:Jb}{H:Hp}{a:Addr}{x y:Str}(h:H a=some (.tup [.str x,.str y])):Den K H (.tuple [.str x,.str y]) (.ref a):=by
 unfold Den
 refine⟨a,_,rfl,d9.of h,?_⟩
 unfold aL
 refine⟨_,_,rfl,by unfold Den;rfl,?_⟩
 unfold aL
 refine⟨_,_,rfl,by unfold Den;rfl,?_⟩
 unfold aL
 rfl
def wR (K:Jb)(H:Hp)(bk:List (Str×Str))(v:V):Prop:=ck fun(l:Addr) (vs:List V)=>v = .ref l/\H l=some (.lst vs)/\aL K H (bk.map fun q =>.tuple [.str q.1,.str q.2]) vs
theorem xK {K:Jb}{H1 H':Hp}{b c p:Addr}{t:Int}{as:List Addr}{ns cs:List Str}(bx:Bx H1 b c t)(hp:H1 p=none)(hl:H' p=some (.lst (as.map V.ref)))(hle:ns.length=cs.length)
  (AH:as.length=min (ns.map V.str).length (cs.map V.str).length) (h:∀(j:Nat) a x y,as[j]? = some a->(ns.map V.str)[j]? = some x->(cs.map V.str)[j]? = some y->H1 a=none/\H' a=some (.tup [x,y])) :
  wR K (kZ H' b c) (ns.zip cs) (.ref p):=by
 have Oq:as.length=ns.length:=by rw[AH,Ja,Ja,<-hle,Nat.min_self]
 obtain⟨pb,pc⟩:=bx.bX hp
 refine⟨p,_,rfl,by rw[jj pb pc];exact hl,aL.of_get ?_ fun j d v hd hv =>?_⟩
 ·rw[Ja,Ja,List.length_zip];omega
 ·rw[Jj] at hd hv
  have hj:j<as.length:=by
   cases e:as[j]? with
   | none=>rw[e] at hv;cases hv
   | some a=>exact(Ju.mp e).1
  have e1:as[j]? = some as[j]:=Jf hj
  have e2:ns[j]? = some (ns[j]'(by omega)):=Jf (by omega)
  have e3:cs[j]? = some (cs[j]'(by omega)):=Jf (by omega)
  rw[e1] at hv;cases hv
  rw[(List.getElem?_zip_eq_some (z:=(ns[j]'(by omega),cs[j]'(by omega)))).mpr ⟨e2,e3⟩] at hd
  cases hd
  obtain⟨h1,h2⟩:=h j as[j] _ _ e1 (by rw[Jj,e2];rfl) (by rw[Jj,e3];rfl)
  obtain⟨ab,ac⟩:=bx.bX h1
  exact Den.pairOf (by rw[jj ab ac];exact h2)
structure bh (n:Nat)(x:Str):Prop where
 bin:jJ x
 pos:1<=x.length
 le:x.length<=n
theorem bh.mono {n m:Nat}{x:Str}(h:bh n x)(le:n<=m):bh m x:=⟨h.bin,h.pos,Js h.le le⟩
theorem jJ.app {x y:Str}(h:jJ x)(h':jJ y):jJ (x++y):=fun ch hc=>by
 rw[bz] at hc
 rcases Ji.mp hc with q|q
 ·exact h ch q
 ·exact h' ch q
theorem l6 (cs:List Str):(!PyData.eqv (.list (cs.map PyData.str)) (.list [])) = !cs.isEmpty:=by
 cases cs<;>simp[PyData.eqv,PyData.eqvAll]
noncomputable abbrev sg (x:Str):List Nat:=x.cps.toList
def RF (a b:Str):Prop := ¬(sg a <+: sg b)/\¬(sg b <+: sg a)
theorem RF.symm {a b:Str}(h:RF a b):RF b a:=⟨h.2,h.1⟩
theorem jv (x y:Str):sg (x++y)=sg x++sg y:=bz x y
theorem RF.ext {a b u v:Str}(h:RF a b):RF (a++u) (b++v):=by
 refine⟨fun z =>?_,fun z =>?_⟩
 ·rw[jv,jv] at z
  rcases List.prefix_or_prefix_of_prefix ((List.prefix_append _ _).trans z) (List.prefix_append (sg b) (sg v)) with q|q
  ·exact h.1 q
  ·exact h.2 q
 ·rw[jv,jv] at z
  rcases List.prefix_or_prefix_of_prefix ((List.prefix_append _ _).trans z) (List.prefix_append (sg a) (sg u)) with q|q
  ·exact h.2 q
  ·exact h.1 q
abbrev g4 (cs:List Str):Prop:=cs.Pairwise RF
theorem g4.perm {cs ds:List Str}(h:g4 cs)(p:cs.Perm ds):g4 ds:=(p.pairwise_iff fun h=>RF.symm h).mp h
theorem g4.sub {cs ds:List Str}(h:g4 cs)(s:ds.Sublist cs):g4 ds:=List.Pairwise.sublist s h
noncomputable abbrev s0:Str := "0"
noncomputable abbrev s1:Str := "1"
theorem RF.two (x:Str):RF (x++s0) (x++s1):=by
 have e0:sg (x++s0)=sg x++[48]:=bz x s0
 have e1:sg (x++s1)=sg x++[49]:=bz x s1
 refine⟨fun z =>?_,fun z =>?_⟩
 ·rw[e0,e1] at z
  have:=z.eq_of_length (by simp)
  simp at this
 ·rw[e0,e1] at z
  have:=z.eq_of_length (by simp)
  simp at this
theorem RF.one {x y u:Str}(h:RF y x):RF y (x++u):=by
 have z:=h.ext (u:=Str.empty) (v:=u)
 have e:y++Str.empty=y:=by
  show(⟨y.cps ++ #[]⟩:Str)=y
  simp
 rw[e] at z
 exact z
theorem g4.split {A B:List Str}{x:Str}(h:g4 (A++x::B)):g4 (A++[x++s0,x++s1]++B):=by
 rw[Ug]
 refine ae.el (Ue.mp h) _ ?_
 rintro hA hxB hAB
 obtain⟨hx,hB⟩:=List.pairwise_cons.mp hxB
 refine Ue.mpr ⟨hA,?_,fun a ha y hy =>?_⟩
 ·refine Ue.mpr ⟨List.pairwise_cons.mpr ⟨fun y hy=>by rw[Jg.mp hy];exact RF.two x,List.pairwise_singleton _ _⟩,hB,fun y hy z hz =>?_⟩
  have q:=(hx z hz).symm
  simp at hy
  rcases hy with rfl|rfl
  ·exact q.one.symm
  ·exact q.one.symm
 ·rcases Ji.mp hy with hy|hy
  ·have q:=hAB a ha x Jn
   simp at hy
   rcases hy with rfl|rfl
   ·exact q.one
   ·exact q.one
  ·exact hAB a ha y (Jp _ hy)
theorem vT {cs:List Str}{k:Nat}{x:Str}(h:cs[k]? = some x):cs=cs.take k++x::cs.drop (k+1):=by
 obtain⟨hk,e⟩:=Ju.mp h
 rw[<-e,<-Y5 hk,Y6]
theorem v9 {cs:List Str}{k:Nat}{x:Str}(h:cs[k]? = some x):cs.Perm (x::cs.eraseIdx k):=by
 have e:=vT h
 have e2:cs.eraseIdx k=cs.take k++cs.drop (k+1):=Yn _ _
 rw[e2]
 conv=>lhs;rw[e]
 exact List.perm_middle
theorem EA:g4 [s0,s1]:=by
 refine List.pairwise_cons.mpr ⟨fun y hy =>?_,List.pairwise_singleton _ _⟩
 rw[Jg.mp hy]
 have:=RF.two Str.empty
 exact this
theorem fE {x y:Str}(h:sg x=sg y):x=y:=by
 cases x;cases y
 simp only[sg] at h
 rw[Array.toList_inj.mp h]
theorem DA {x:Str}{j:Int}(h0:0<=j)(h1:j<=x.length):sg (Txt.slice x none (some j))=(sg x).take j.toNat:=by
 have e:=PyProof.Rows.slice_closes_to (x:=x) (j:=j) ⟨h0,by rw[<-str_len];exact h1⟩
 rw[eq_of_beq e]
 simp
theorem qd {H:Hp}{b c:Addr}:aw (kZ H b c) H:=fun a o e=>(kJ e).1
def jZ (K:Jb):Sp:=fun vs H Q _=>ck fun(a:Addr) (ns:List Int)=>vs=[.ref a]/\aE K H a (ns.map V.int)/\ns.length<=63 /\
 ∀(b c:Addr) (H':Hp),Bx H' b c 0->H b=none->H c=none->aw H (kZ H' b c)->Q (.ref b) H'
theorem Den.ints {K:Jb}{H:Hp}:∀(ns:List Int),aL K H (ns.map PyData.int) (ns.map V.int)
 | []=>by unfold aL;rfl
 | n::ns=>by
  rw[Uc,Uc]
  unfold aL
  exact⟨_,_,rfl,by unfold Den;rfl,Den.ints ns⟩
theorem hX (ds:List PyData):PyData.eqv (.list ds) (.list [])=ds.isEmpty:=by
 cases ds<;>simp[PyData.eqv,PyData.eqvAll]
theorem sM {n:Nat}(ns:List Int):Sh (n+1) (.list (ns.map PyData.int)):=Sh.list fun d hd=>by
 refine ae.el (J1.mp hd) _ ?_
 rintro i _ rfl
 exact Sh.int
section
variable {P:Program}{w:World}{K:Jb}{mg:Str->Option Value}{base:Heap}{f:Addr}{fd:FuncData}
theorem fJ:aO ["_law_script", "_law_cells"] ["_law_script"] (aB (top gq)):=⟨rfl,rfl,rfl,by decide +kernel,rfl,by decide +kernel,by decide +kernel⟩
theorem xi (F:dh K "_law_begin" "_law_begin" (top gq) f fd)(T:Nm mg):bM P w K mg base gU 1 f fd ["_law_script"] (jZ K):=by
 refine F.ok fJ (fun vs H Q E h =>?_) (fun dG A outer s H vs Q E hr h =>?_)
 ·obtain⟨a,ns,rfl,_⟩:=h
  rfl
 unfold jZ at h
 refine ae.el h _ ?_
 clear h
 rintro a ns rfl hS hlen q
 have fO:=hr.units
 refine⟨_,(ah (aI (i:=1) fJ.nd rfl (Or.inl rfl) (dJ (An K) rfl T.n_list (by rfl) (aa (cw (yj K) (pv 0) cU (dc ao)) ag)))
  (ah (bV (aG (yc K fO) (pv 1) (dy ag) (aM _)) (ak (aI (i:=1) fJ.nd rfl (Or.inl rfl) (dy (aa ao ag)))) aW)
  (ak (aK (Er (kg bb (pv 1) (kg bb ao tm)) rfl rfl (by decide) (by decide)))))),?_⟩
 refine⟨_,rfl,_,rfl,.inl ⟨a,_,rfl,hS,fun r1 H1 n1 =>?_⟩⟩
 refine⟨r1,_,rfl,.inl (aE.of n1.at),fun r2 H2 n2=>gn ?_⟩
 have hc:lz (ns.map V.int) none (some 63)=ns.map V.int:=by
  have e:=Cg (ns.map V.int) 63
  rw[U9 (by rw[Ja];exact hlen)] at e
  exact e
 have Bl:H2 r2=some (.lst (ns.map V.int)):=by rw[<-hc];exact n2.at
 have KQ:=n1.same.trans n2.same
 dsimp only
 refine cb (t:=uM _ _ _) (fun σ H'=>ck fun(r:Addr) (zg:List Int) =>σ=[some (.ref a),some (.ref r)]/\H' r=some (.lst (zg.map V.int))/\0<zg.length/\zg.length<=64/\H r=none/\aw H H') (fun Nx nx =>?_) ?_
 ·refine⟨_,rfl,by show 0<=sizeLine;decide,fun r3 H3 n3 =>?_⟩
  have d2:Den K H3 (.list (ns.map PyData.int)) (.ref r2):=Den.list (aE.of (n3.same _ _ Bl)) (Den.ints ns)
  have d3:Den K H3 (.list []) (.ref r3):=Den.list (aE.of n3.at) (Den.ints [])
  refine .inr ⟨_,_,d2,d3,(sM (n:=1) ns).shaped (by decide),by decide +kernel,_,rfl,?_⟩
  rw[hX]
  refine ee (fun e =>?_) (fun e =>?_)
  ·refine⟨by show 1<=sizeLine;decide,fun r4 H4 n4=>gn (nx _ _ ⟨r4,[_],rfl,n4.at,by decide,by decide,(KQ.trans n3.same).free n4.nn,KQ.trans (n3.same.trans n4.same)⟩)⟩
  ·refine nx _ _ ⟨r2,ns,rfl,n3.same _ _ Bl,?_,by omega,n1.same.free n2.nn,KQ.trans n3.same⟩
   cases ns with
   | nil=>exact absurd rfl e
   | cons _ _=>exact Nat.succ_pos _
 intro σ H3
 refine ae.go ?_
 rintro r zg rfl lF l0 l1 hn sm
 intro p H0 n0
 refine⟨_,rfl,?_⟩
 refine⟨n0.at,[(.inr "cells",.ref r),(.inr "turn",.int 0)],rfl,by show 2<=15;decide,fun H6 n6 =>?_⟩
 have MU:r≠p:=aj lF n0.nn
 have hp:H p=none:=sm.free n0.nn
 refine q p r H6 ⟨zg,[],?_,.inl rfl,?_,l0,l1⟩ hp hn (fun b o e =>?_)
 ·rw[n6.at];rfl
 ·rw[n6.ne MU,n0.ne MU];exact lF
 ·have qM:b≠p:=aj e hp
  have O1:b≠r:=aj e hn
  rw[jj qM O1,n6.ne qM,n0.ne qM]
  exact sm _ _ e
end
theorem aH {α:Type}{l:List α}{i:Nat}(h:i<l.length):l.take (i+1)=l.take i++[l[i]]:=by
 rw[List.take_succ,Jf h];rfl
theorem yI (i j:Int)(n:Nat)(h:n<=j):PySem.Builtin.Str.strSliceIndices (some i) (some j) 1 n=PySem.Builtin.Str.strSliceIndices (some i) (some (n:Int)) 1 n:=by
 unfold PySem.Builtin.Str.strSliceIndices
 dsimp only
 congr 1
 have a:¬j<0:=by omega
 have b:¬((n:Nat):Int)<0:=by omega
 rw[if_neg a,if_neg b]
 omega
theorem Cu {x:Str}{p q:Nat}(h1:p<=q)(h2:p<=x.length):sg (Txt.slice x (some (p:Int)) (some (q:Int)))=((sg x).drop p).take (q-p):=by
 by_cases hq:q<=x.length
 ·have e:=PyProof.Rows.slice_closes (x:=x) (i:=p) (j:=q) ⟨by omega,by omega,by rw[<-str_len];omega⟩
  rw[eq_of_beq e]
  show(((sg x).drop (p:Int).toNat).take ((q:Int)-p).toNat).toArray.toList=_
  rw[Yk]
  congr 1
  omega
 ·have e:=PyProof.Rows.slice_closes (x:=x) (i:=p) (j:=(x.length:Int)) ⟨by omega,by omega,by rw[<-str_len];omega⟩
  have e2:Txt.slice x (some (p:Int)) (some (q:Int))=Txt.slice x (some (p:Int)) (some ((x.length:Nat):Int)):=by
   unfold Txt.slice
   rw[yI _ _ _ (show((x.length:Nat):Int)<=q by omega)]
  rw[e2,eq_of_beq e]
  show(((sg x).drop (p:Int).toNat).take ((x.length:Int)-p).toNat).toArray.toList=_
  rw[Yk,U9,U9]
  ·rfl
  ·rw[J9,<-str_len];omega
  ·rw[J9,<-str_len];omega
noncomputable def byName (bk:List (Str×Str)):List (Key×V):=bk.map fun q=>(.inr q.1,.str q.2)
theorem m7 {α:Type}{f: α->Key×V}{k:Key}:∀{l:List α} {x: α},x∈l->(f x).1=k->(∀y∈l,(f y).1=k->(f y).2=(f x).2)->az (l.map f) k=some (f x).2
 | y::l,x,hx,hk,hu=>by
  rw[Uc]
  by_cases e:(f y).1=k
  ·rw[bR e,hu y Jn e]
  ·rw[bH e]
   refine m7 ((Um.mp hx).resolve_left fun z=>e (by rw[<-z];exact hk)) hk fun z hz=>hu z (Jp _ hz)
theorem fY {α:Type}{f: α->Key×V}{k:Key}:∀{l:List α},(∀y∈l,(f y).1≠k)->az (l.map f) k=none
 | [],_=>rfl
 | y::l,h=>by
  rw[Uc,bH (h y Jn)]
  exact fY fun z hz=>h z (Jp _ hz)
theorem vC {α β:Type}{g: α -> β}{l:List α}(nd:(l.map g).Nodup){x y: α}(hx:x∈l)(hy:y∈l)(e:g x=g y):x=y:=by
 obtain⟨i,hi,rfl⟩:=U2.mp hx
 obtain⟨j,hj,rfl⟩:=U2.mp hy
 have:=(U3.mp nd)
 have key:i=j:=by
  rcases Nat.lt_trichotomy i j with h|h|h
  ·exact absurd (by rw[Yf,Yf];exact e) (Ux.mp this i j (by rw[Ja];exact hi) (by rw[Ja];exact hj) h)
  ·exact h
  ·exact absurd (by rw[Yf,Yf];exact e.symm) (Ux.mp this j i (by rw[Ja];exact hj) (by rw[Ja];exact hi) h)
 subst key;rfl
def Of (bk:List (Str×Str))(ps:List (Str×Str)):Prop:=∀q∈ps,q∈bk
noncomputable def tx (ps:List (Str×Str)):List Nat:=ps.flatMap fun q=>sg q.2
noncomputable def mE (ps:List (Str×Str)):Str:=⟨(tx ps).toArray⟩
theorem qj (ps:List (Str×Str)):sg (mE ps)=tx ps:=by simp[mE]
end Z
set_option maxRecDepth 200000
namespace Z
open PySem L2
def oh (K:Jb)(H:Hp)(bk:List (Str×Str))(l:Addr):Prop:=∃vs,aE K H l vs/\aL K H (bk.map fun q =>.tuple [.str q.1,.str q.2]) vs
theorem oh.same {K:Jb}{H H':Hp}{bk:List (Str×Str)}{l:Addr}(h:oh K H bk l)(s:aw H H'):oh K H' bk l:=by
 obtain⟨vs,h1,h2⟩:=h
 exact⟨vs,s.seq h1,h2.same s⟩
theorem jG {K:Jb}{H:Hp}{bk:List (Str×Str)}{vs:List V}(h:aL K H (bk.map fun q =>.tuple [.str q.1,.str q.2]) vs){i:Nat}(hi:i<bk.length):∃tp,vs[i]? = some (.ref tp)/\d9 K H tp [.str bk[i].1,.str bk[i].2]:=by
 obtain⟨v,h1,h2⟩:=h.get (i:=i) (d := .tuple [.str bk[i].1,.str bk[i].2]) (by rw[Jj,Jf hi];rfl)
 refine ae.el (h2.pair) _ ?_
 rintro tp rfl h3
 exact⟨tp,h1,h3⟩
theorem hZ {K:Jb}{H:Hp}{bk:List (Str×Str)}{vs:List V}(h:aL K H (bk.map fun q =>.tuple [.str q.1,.str q.2]) vs):vs.length=bk.length:=by rw[h.len,Ja]
theorem Fx {K:Jb}{bk:List (Str×Str)}{l:Addr}{tk tv:TE}{f:Str×Str->Key×V}(nd:(bk.map fun q=>(f q).1).Nodup)(hle:bk.length<=100)(hk:∀(q:Str×Str) (H:Hp) (Q:VK),Q (kV (f q).1) H->tk [some (.str q.1),some (.str q.2)] H Q)
  (hv:∀(q:Str×Str) (H:Hp) (Q:VK),Q (f q).2 H->tv [some (.str q.1),some (.str q.2)] H Q) {σ:St} {D:Addr} {H:Hp} (hB:oh K H bk l) (hD:H D=none) {fin:Hp->Prop} (q:fin (upd H D (.dK (bk.map f)))) :
  tL (Hh K l) 2 [] (pC K 2 (gw (di 0) (gw (di 1) qV))) kN tk tv σ D (upd H D (.dK [])) fin:=by
 obtain⟨vs,hl,hd⟩:=hB
 have hlen:=hZ hd
 refine⟨fun i m H'=>m=bk.length-i/\i<=bk.length/\H'=upd H D (.dK ((bk.take i).map f)),⟨_,rfl,Uq _,rfl⟩,?_⟩
 intro i m H'
 refine ae.go ?_
 rintro rfl hi rfl
 have sm:aw H (upd H D (.dK ((bk.take i).map f))):=bS hD _
 by_cases cc:i<bk.length
 ·refine ae.el (jG hd cc) _ ?_
  rintro tp h1 h2
  refine .inr ⟨⟨_,_,sm.seq hl,h1⟩,?_⟩
  rintro x H2 ⟨rfl,hy⟩
  have e:=hy _ (sm.seq hl)
  rw[h1] at e;cases e
  refine⟨tp,_,rfl,sm.rJ h2,rfl,_,_,rfl,_,_,rfl,rfl,?_⟩
  dsimp only[kN]
  rw[if_pos rfl]
  refine hk bk[i] _ _ (hv bk[i] _ _ ⟨(bk.take i).map f,(f bk[i]).1,aJ,rfl,?_,bk.length-(i+1),by omega,rfl,cc,?_⟩)
  ·rw[Ja,Jr]
   exact Jy (show min i bk.length<=20000 by omega) (by decide)
  ·rw[cM _ (fY fun y hy e =>?_),tF,aH cc,Jh]
   ·rfl
   ·have h3:=U3.mp nd
    refine ae.el (U2.mp hy) _ ?_
    rintro j hj rfl
    rw[Jr] at hj
    rw[List.getElem_take] at e
    exact absurd (by rw[Yf,Yf];exact e) (Ux.mp h3 j i (by rw[Ja];omega) (by rw[Ja];omega) (by omega))
 ·have e:i=bk.length:=by omega
  subst e
  refine .inl ⟨⟨_,sm.seq hl,by omega⟩,?_⟩
  rw[Jz];exact q
theorem jt {bk:List (Str×Str)}{g:Str×Str->Str}(h:(bk.map g).Nodup):(bk.map fun q=>(Sum.inr (g q):Key)).Nodup:=by
 have e:(bk.map fun q=>(Sum.inr (g q):Key))=(bk.map g).map Sum.inr:=by rw[Ym];rfl
 rw[e]
 refine U3.mpr (List.pairwise_map.mpr ((U3.mp h).imp fun Cj z=>Cj (by injection z)))
theorem qW (a b:List (Str×Str)):tx (a++b)=tx a++tx b:=List.flatMap_append
theorem fL {ps:List (Str×Str)}{i:Nat}(hi:i<ps.length):((ps.map (·.1)).map V.str)[i]? = some (.str ps[i].1):=by rw[Jj,Jj,Jf hi];rfl
theorem jm {ps:List (Str×Str)}:((ps.map (·.1)).map V.str).length=ps.length:=by rw[Ja,Ja]
theorem rM:∀(ps:List (Str×Str)),((ps.map (·.2)).map (·.length)).sum=(tx ps).length
 | []=>rfl
 | q::ps=>by
  rw[Uc,Uc,List.sum_cons,rM ps,str_len]
  show(sg q.2).length+_=(sg q.2++tx ps).length
  rw[Jc]
theorem sY (ps:List (Str×Str)):Txt.join "" (ps.map (·.2))=mE ps:=by
 refine fE ?_
 rw[qj]
 show(Txt.join "" (ps.map (·.2))).cps.toList=_
 rw[iu,List.flatMap_map]
 rfl
theorem o8 (a:Nat):∀(k:Nat) (acc:Array Nat),((Jq k #[a]).foldl (· ++ ·) acc).toList=acc.toList++Jq k a
 | 0,acc=>by simp
 | k+1,acc=>by
  rw[Yj,List.foldl_cons,o8 a k,Yj]
  simp
theorem yV (a k:Nat):sg (Txt.mul (⟨#[a]⟩:Str) (k:Int))=Jq k a:=by
 unfold Txt.mul
 split
 ·have:k=0:=by omega
  subst this;rfl
 ·split
  ·rename_i h1 h2
   have:k=1:=by
    have h2:((k:Int)==1)=true:=by
     rcases Bool.or_eq_true_iff.mp h2 with h|h
     ·exact h
     ·exact absurd h (by simp[Str.length])
    have:=eq_of_beq h2
    omega
   subst this;rfl
  ·show((Jq (k:Int).toNat #[a]).foldl (· ++ ·) #[]).toList=_
   rw[o8];simp
structure rV (i:Nat)(x:Str):Prop where
 le:x.length<=8
 last:x.cps.toList.getLast? = some (97+i)
theorem rV.nodup {xs:List Str}(h:∀(i:Nat) x,xs[i]? = some x->rV i x):xs.Nodup:=by
 refine U3.mpr (Ux.mpr fun i j hi hj gX e =>?_)
 have h1:=(h i _ (Jf hi)).last
 have h2:=(h j _ (Jf hj)).last
 rw[e,h2] at h1
 have h1:=Option.some.inj h1
 omega
theorem kf:∀{xs:List Str},(∀x∈xs,∃ch:Nat,x=⟨#[ch]⟩)->(xs.flatMap (fun p=>p.cps.toList)).length=xs.length/\(xs.map (·.length)).sum=xs.length
 | [],_=>⟨rfl,rfl⟩
 | x::r,h=>by
  obtain⟨ch,rfl⟩:=h x Jn
  obtain⟨h1,h3⟩:=kf fun y hy=>h y (Jp _ hy)
  refine⟨by simp at h1 ⊢;omega,?_⟩
  rw[Uc,List.sum_cons,h3]
  show 1+_=_
  simp;omega
section
variable {P:Program}{w:World}{K:Jb}{mg:Str->Option Value}{base:Heap}{f:Addr}{fd:FuncData}
theorem dI:aO ["_law_state", "_law_many", "_law_letters", "_law_found", "_law_k"] ["_law_state", "_law_many"] (aB (top gM)):=⟨rfl,rfl,rfl,by decide +kernel,rfl,by decide +kernel,by decide +kernel⟩
end
def zx:Sp:=fun vs H Q _=>AB fun(b c:Addr) (t many most:Int)=>vs=[.ref b,.int many,.int most]/\Bx H b c t/\0<=t/\t<900000/\1<=many/\many<=12/\1<=most/\most<=12 /\
 ∀(cs:List Str) (l:Addr) (H':Hp) (t':Int),cs≠[]->(cs.length:Int)<=many->g4 cs->(∀x∈cs,bh most.toNat x)->Step b c H H' t t' 40->H l=none->H' l=some (.lst (cs.map V.str))->Q (.ref l) H'
theorem Av {n:Nat}(h:1<=n):bh n s0:=⟨fun ch hc =>.inl (by have:ch∈[48]:=hc;simpa using this),by decide +kernel,h⟩
theorem AK {n:Nat}(h:1<=n):bh n s1:=⟨fun ch hc =>.inr (by have:ch∈[49]:=hc;simpa using this),by decide +kernel,h⟩
theorem bh.HW {n:Nat}{x:Str}(h:bh n x)(hl:x.length<n):bh n (x++s0):=by
 have e:s0.length=1:=by decide +kernel
 exact⟨h.bin.app (Av (n:=1) (by decide)).bin,by rw[dY];omega,by rw[dY];omega⟩
theorem bh.KD {n:Nat}{x:Str}(h:bh n x)(hl:x.length<n):bh n (x++s1):=by
 have e:s1.length=1:=by decide +kernel
 exact⟨h.bin.app (AK (n:=1) (by decide)).bin,by rw[dY];omega,by rw[dY];omega⟩
theorem ud (xs:List Str)(k:Nat):(xs.map V.str).eraseIdx k=(xs.eraseIdx k).map V.str:=by
 rw[Yn,Yn,Jh,List.map_take,List.map_drop]
theorem nV {cs:List Str}(h:∀x∈cs,jJ x):SeqAt.shaped (.list (cs.map PyData.str))=true:=(Sh.list (n:=0) fun d hd=>by
   refine ae.el (J1.mp hd) _ ?_
   rintro x hx rfl
   exact Sh.str (bW fun ch hc=>by rcases h x hx ch hc with e|e<;>omega)).shaped (by decide)
theorem gK:SeqAt.shaped (.list [])=true:=(Sh.list (n:=0) fun d hd=>by simp at hd).shaped (by decide)
section
variable {P:Program}{w:World}{K:Jb}{mg:Str->Option Value}{base:Heap}{f:Addr}{fd:FuncData}
abbrev LW (b c:Addr)(H:Hp)(t many most mo:Int)(k:Nat)(σ:L2.St)(H':Hp):Prop:=zW fun(cs:List Str) (l:Addr) (t':Int) (x5 x6 x7:Option V) =>σ=[some (.ref b),some (.int many),some (.int most),some (.ref l),some (.int mo),x5,x6,x7,none]/\1<=cs.length/\(cs.length:Int)<=many+mo+1/\g4 cs/\(∀x∈cs,bh most.toNat x)/\Step b c H H' t t' k/\H l=none/\l≠b/\l≠c/\H' l=some (.lst (cs.map V.str))
theorem bU:aO ["_law_state", "_law_many", "_law_most", "_law_leaves", "_law_more", "_law_turn", "_law_some", "_law_leaf", "_law_found"] ["_law_state", "_law_many", "_law_most"] (aB (top ip)):=⟨rfl,rfl,rfl,by decide +kernel,rfl,by decide +kernel,by decide +kernel⟩
theorem yA (F:dh K "_law_free" "_law_free" (top ip) f fd)(T:Nm mg)(aQ:Fn P w K mg base 1 "_law_take" ["_law_state", "_law_many"] uD):bM P w K mg base gU 2 f fd ["_law_state", "_law_many", "_law_most"] zx:=by
 refine F.ok bU (fun vs H Q E h =>?_) (fun dG A outer s H vs Q E hr h =>?_)
 ·obtain⟨b,c,t,many,most,rfl,_⟩:=h
  rfl
 unfold zx at h
 refine ae.el h _ ?_
 clear h
 rintro b c t many most rfl bx t0 t1 m0 m1 o0 o1 q
 have fO:=hr.units
 have z1:sizeLine>=10000000:=by decide
 refine⟨_,(ah (aI (i:=3) bU.nd rfl (Or.inl rfl) (dy (aa bb (aa bb ag))))
  (ah (aI (i:=4) bU.nd rfl (Or.inl rfl) (aY (aQ.mono (by decide)) hr rfl (aa (pv 0) (aa ao ag))))
  (ah (dF PassesOwn.never rfl (dj rfl T.n_range (aa (pv 1) ag)) (ai (i:=5) bU.nd rfl (Or.inl rfl)) (ah (bw (i:=6) bU.nd rfl (Or.inl rfl) rfl (aN (Nc:=["_law_leaf"]) (Fc:=["_law_most"]) (js:=[2])) (fV K (pv 3)) (aA (i:=0) (n:=1) (by decide)) (fun _ _ _ _ _=>(ai (i:=0) (dX ["_law_leaf", "_law_most"]) rfl (Or.inl rfl))) (fun _ _ _ _ _=>(cO (aG jE (au (dv K) rfl T.n_len (by rfl) (aa (pv 0) ag)) (pv 1) (aM _)))) (fun _ _ _ _ _=>(pv 0)))
  (ak (bV (PW.pt (lh (aG (rK K fO) (pv 6) (dy ag) (aM _)) (iI (aG jE (au (dv K) rfl T.n_len (by rfl) (aa (pv 3) ag)) (aU dN (pv 1) (pv 4)) (aM _))))) (ah (aI (i:=7) bU.nd rfl (Or.inl rfl) (bK (i9 K) (pv 6) (aY (aQ.mono (by decide)) hr rfl (aa (pv 0) (aa (au (dv K) rfl T.n_len (by rfl) (aa (pv 6) ag)) ag))) (fun _ _=>rfl)))
  (ah (cH (oj K PySem.F.plainAttrs_list PySem.F.slot_list_remove PySem.F.type_list_remove zz (pv 3) (aa (pv 7) ag)))
  (ak (aI (i:=3) bU.nd rfl (Or.inl rfl) (aU dN (pv 3) (dy (aa (aU dN (pv 7) bb) (aa (aU dN (pv 7) bb) ag)))))))) aW))))
  (ah (aI (i:=8) bU.nd rfl (Or.inl rfl) (dy ag))
  (ah (gi PassesOwn.never (PW.pt (lh (aG (rK K fO) (pv 3) (dy ag) (aM _)) (iI (aG jE (au (dv K) rfl T.n_len (by rfl) (aa (pv 8) ag)) (pv 1) (aM _))))) (ak (cH (oj K PySem.F.plainAttrs_list PySem.F.slot_list_append PySem.F.type_list_append gW (pv 8) (aa (oj K PySem.F.plainAttrs_list PySem.F.slot_list_pop PySem.F.type_list_pop CF (pv 3) (aa (aY (aQ.mono (by decide)) hr rfl (aa (pv 0) (aa (au (dv K) rfl T.n_len (by rfl) (aa (pv 3) ag)) ag))) ag)) ag)))))
  (ak (aK (pv 8)))))))),?_⟩
 refine⟨by show 2<=sizeLine;decide,fun l1 H1 n1=>gn ?_⟩
 have LV:=(bx.bX n1.nn).1
 have MJ:=(bx.bX n1.nn).2
 have fG:=(Step.refl bx).d5 n1
 refine⟨_,rfl,b,c,t,3,rfl,fG.bx,by omega,by omega,by decide,by decide,fun mo H2 mo0 mo1 bG=>gn ?_⟩
 have BE:=bG.old n1.at LV MJ
 have bG:=fG.trans bG
 dsimp only
 refine cb (t:=lB _ _ _) (LW b c H t many most mo 13) (fun Nx nx =>?_) ?_
 ·refine⟨_,rfl,_,rfl,by omega,by omega,?_⟩
  refine lX (lo:=0) (n:=many.toNat) (fun i=>LW b c H t many most mo (1+i)) ⟨[s0,s1],l1,_,_,_,_,rfl,by decide,by show(2:Int)<=many+mo+1;omega,EA,?_,bG.more (by omega),n1.nn,LV,MJ,BE⟩ ?_ ?_
  ·intro x hx
   simp at hx
   rcases hx with rfl|rfl
   ·exact Av (by omega)
   ·exact AK (by omega)
  ·intro i σ H3 hi
   refine ae.go ?_
   rintro cs l t3 x5 x6 x7 rfl Dm hcm fr ok cR hl lb lc gY
   have MD:=cR.ub
   have v7:=cR.le
   have hlen:(cs.map V.str).length=cs.length:=Ja _
   have Dv:∀{k:Nat} (hk:k<cs.length),(cs.map V.str)[k]? = some (.str cs[k]):=fun hk=>by rw[Jj,Jf hk];rfl
   dsimp only
   refine cj (te:=dU _ _ _ _ _ _) (fun v H'=>ck fun(ss:List Str) (p:Addr)=>v = .ref p/\dz H3 p (.lst (ss.map V.str)) H'/\ss.length<=cs.length/\∀x∈ss,x∈cs/\(x.length:Int)<most) (fun Qn qn =>?_) ?_
   ·refine⟨_,rfl,l,rfl,⟨_,aE.of gY⟩,?_⟩
    refine cX (N:=cs.length) (fun k ys H'=>H'=H3/\∃ss:List Str,ys=ss.map V.str/\ss.length<=k/\∀x∈ss,x∈cs/\(x.length:Int)<most) ⟨rfl,[],rfl,Jd _,(fun _ h=>nomatch h)⟩ ?_ ?_
    ·intro k ys H4 Ny hk hz_ ny
     refine ae.el hz_ _ ?_
     clear hz_
     rintro rfl ss rfl hss hs
     refine⟨⟨_,_,aE.of gY,Dv hk⟩,by rw[Ja];omega,?_⟩
     rintro x H5 ⟨rfl,hy⟩
     have e:=hy _ (aE.of gY)
     rw[Dv hk] at e;cases e
     have hle:=(ok _ (Jt hk)).le
     refine gn ⟨_,rfl,_,_,rfl,⟨sizeOk (by omega),rfl⟩,_,rfl,_,_,rfl,rfl,_,rfl,ee (fun e =>?_) (fun e=>ny _ _ ⟨rfl,ss,rfl,by omega,hs⟩)⟩
     have e:=of_decide_eq_true e
     refine⟨_,rfl,ny _ _ ⟨rfl,ss++[cs[k]],by rw[Jh];rfl,by rw[Jc];show _+1<=_;omega,fun x hx =>?_⟩⟩
     rcases Ji.mp hx with hx|hx
     ·exact hs x hx
     ·rw[Jg.mp hx];exact⟨Jt hk,e⟩
    ·intro ys H4
     refine ae.go ?_
     rintro rfl ss rfl hss hs
     exact⟨⟨_,aE.of gY,by omega⟩,fun p H5 n5=>qn _ _ ⟨ss,p,rfl,n5,hss,hs⟩⟩
   intro v H4
   refine ae.go ?_
   rintro ss p rfl n4 hss hs
   refine gn ?_
   have zy:=n4.same _ _ gY
   have jF:=cR.d5 n4
   have pb:=(cR.bx.bX n4.nn).1
   have pc:=(cR.bx.bX n4.nn).2
   have rR:∀x∈ss,jJ x:=fun x hx=>(ok x (hs x hx).1).bin
   refine⟨_,rfl,by show 0<=sizeLine;decide,fun p5 H5 n5 =>.inr ⟨_,_,Den.list (aE.of (n5.same _ _ n4.at)) (Den.strs _),Den.list (aE.of n5.at) (by unfold aL;rfl),nV rR,gK,_,rfl,?_⟩⟩
   rw[l6]
   have vc:=n5.same _ _ zy
   have yG:=n5.same _ _ n4.at
   have df:=jF.d5 n5
   by_cases hss0:ss=[]
   ·have e:(!ss.isEmpty)=false:=by rw[hss0];rfl
    rw[e]
    exact bA (bA ⟨cs,l,_,_,_,_,rfl,Dm,hcm,fr,ok,df.more (by omega),hl,lb,lc,vc⟩)
   have e:(!ss.isEmpty)=true:=by cases ss with|nil=>exact absurd rfl hss0|cons _ _=>rfl
   rw[e]
   have Ft:0<ss.length:=U1.mpr hss0
   refine e7 ⟨_,rfl,_,_,rfl,.inl ⟨_,aE.of vc,rfl⟩,_,rfl,_,rfl,.inl ⟨_,_,rfl,rfl,_,_,rfl,rfl,_,rfl,ee (fun e2 =>?_) (fun e2=>⟨cs,l,_,_,_,_,rfl,Dm,hcm,fr,ok,df.more (by omega),hl,lb,lc,vc⟩)⟩⟩
   have e2:(cs.length:Int)<many+mo:=by have:=of_decide_eq_true e2;rw[hlen] at this;exact this
   have Ot:(ss.map V.str).length=ss.length:=Ja _
   refine⟨_,rfl,_,rfl,_,rfl,_,_,rfl,.inl ⟨_,aE.of yG,rfl⟩,b,c,_,_,rfl,df.bx,by omega,by omega,by omega,by omega,fun r H6 r0 r1 lA =>?_⟩
   have lF:r.toNat<ss.length:=by omega
   have zC:=lA.old yG pb pc
   have Ao:=lA.old vc lb lc
   have lA:=df.trans lA
   have Ms:nY (ss.map V.str) r=some (.str ss[r.toNat]):=ic r0 (by rw[Jj,Jf lF];rfl)
   have fM:=(hs _ (Jt lF)).1
   have cc:=(hs _ (Jt lF)).2
   generalize ss[r.toNat]=x at Ms fM cc
   refine .inl ⟨p,_,_,_,rfl,rfl,aE.of zC,Ms,gn ?_⟩
   dsimp only
   refine⟨_,rfl,.inl ⟨rfl,_,aE.of Ao⟩,_,rfl,l,cs,x,rfl,rfl,Ao,fM,fun H7 c7 =>?_⟩
   have rq:=lA.zY c7 hl lb lc
   have e0:s0.length=1:=by decide +kernel
   have e1:s1.length=1:=by decide +kernel
   refine⟨_,rfl,_,rfl,.inr (.inl ⟨_,_,rfl,rfl,sizeOk (by rw[e0];omega),_,rfl,.inr (.inl ⟨_,_,rfl,rfl,sizeOk (by rw[e1];omega),by show 2<=sizeLine;decide,fun p8 H8 n8 =>?_⟩)⟩)⟩
   have Mk:(cs.erase x).length=cs.length-1:=List.length_erase_of_mem fM
   refine .inr (.inr ⟨l,p8,_,_,rfl,rfl,n8.same _ _ c7.at,n8.at,by rw[Ja,Mk];exact sizeOk (by show _+2<=_;omega),fun p9 H9 n9=>gn ?_⟩)
   have vb:=rq.d5 n8
   have OA:=(vb.bx.bX n9.nn).1
   have PN:=(vb.bx.bX n9.nn).2
   have M8:=ok x fM
   refine⟨cs.erase x++[x++s0,x++s1],p9,_,_,_,_,rfl,by rw[Jc];show _<=_+2;omega,?_,?_,fun y hy =>?_,(vb.d5 n9).more (by omega),vb.fresh bx n9.nn,OA,PN,?_⟩
   ·rw[Jc,Mk]
    show(((cs.length-1+2:Nat)):Int)<=_
    omega
   ·have h2:g4 (cs.erase x++x::[]):=fr.perm ((List.perm_cons_erase fM).trans (List.perm_append_singleton x _).symm)
    have h3:=g4.split h2
    rwa[Uh] at h3
   ·rcases Ji.mp hy with hy|hy
    ·exact ok y (List.mem_of_mem_erase hy)
    ·simp at hy
     rcases hy with rfl|rfl
     ·exact M8.HW (by omega)
     ·exact M8.KD (by omega)
   ·rw[n9.at,Jh];rfl
  ·intro σ H3
   refine ae.go ?_
   rintro cs l t3 x5 x6 x7 rfl Dm hcm fr ok cR hl lb lc gY
   exact nx _ _ ⟨cs,l,t3,x5,x6,x7,rfl,Dm,hcm,fr,ok,cR.more (by omega),hl,lb,lc,gY⟩
 intro σ H3
 refine ae.go ?_
 rintro cs l t3 x5 x6 x7 rfl Dm hcm fr ok cR hl lb lc gY
 have MD:=cR.ub
 have v7:=cR.le
 refine⟨by show 0<=sizeLine;decide,fun fp H4 n4=>gn ?_⟩
 dsimp only
 have hf:H fp=none:=cR.fresh bx n4.nn
 have fb:=(cR.bx.bX n4.nn).1
 have fc:=(cR.bx.bX n4.nn).2
 have lf:l≠fp:=fun z=>by have:=n4.nn;rw[<-z,gY] at this;cases this
 refine cb (t:=ig _ _) (fun σ H'=>fR fun(fs:List Str) (t':Int) (x3:Option V) =>σ=[some (.ref b),some (.int many),some (.int most),x3,some (.int mo),x5,x6,x7,some (.ref fp)]/\fs≠[]/\(fs.length:Int)<=many/\g4 fs/\(∀x∈fs,bh most.toNat x)/\Step b c H H' t t' 40/\H' fp=some (.lst (fs.map V.str))) (fun Nx nx =>?_) ?_
 ·refine iG (fun m σ H'=>fR fun(fs ds:List Str) (t':Int)=>m=ds.length /\ σ=[some (.ref b),some (.int many),some (.int most),some (.ref l),some (.int mo),x5,x6,x7,some (.ref fp)]/\(fs++ds).Perm cs/\(fs.length:Int)<=many/\Step b c H H' t t' (13+fs.length)/\H' fp=some (.lst (fs.map V.str))/\H' l=some (.lst (ds.map V.str))) ⟨_,[],cs,t3,rfl,rfl,Ya.refl _,by show(0:Int)<=_;omega,(cR.d5 n4).more (by show(9:Int)<=9+0;decide),n4.at,n4.same _ _ gY⟩ ?_
  intro m σ H5
  refine ae.go ?_
  rintro fs ds t5 rfl rfl pm hfl df hf5 vc
  have LU:=df.ub
  have JJ:=df.le
  have P1:fs.length+ds.length=cs.length:=by rw[<-Jc];exact pm.length_eq
  have OU:∀x∈ds,bh most.toNat x:=fun x hx=>ok x (pm.subset (Jk _ hx))
  have JE:∀x∈fs,bh most.toNat x:=fun x hx=>ok x (pm.subset (Ud _ hx))
  have qP:g4 fs:=(fr.perm pm.symm).sub (List.sublist_append_left _ _)
  have Nq:(ds.map V.str).length=ds.length:=Ja _
  have A5:(fs.map V.str).length=fs.length:=Ja _
  have fin:∀{H':Hp},(ds=[]∨¬(fs.length:Int)<many)->Step b c H H' t t5 (13+fs.length)->H' fp=some (.lst (fs.map V.str))->Nx [some (.ref b),some (.int many),some (.int most),some (.ref l),some (.int mo),x5,x6,x7,some (.ref fp)] H':=fun{H'} hend aD hf'=>by
   refine nx _ _ ⟨fs,t5,_,rfl,fun z =>?_,hfl,qP,JE,aD.more (by omega),hf'⟩
   have hz:fs.length=0:=by rw[z];rfl
   rcases hend with h|h
   ·have:ds.length=0:=by rw[h];rfl
    omega
   ·omega
  refine⟨_,rfl,by show 0<=sizeLine;decide,fun p6 H6 n6 =>.inr ⟨_,_,Den.list (aE.of (n6.same _ _ vc)) (Den.strs _),Den.list (aE.of n6.at) (by unfold aL;rfl),nV (fun x hx=>(OU x hx).bin),gK,_,rfl,?_⟩⟩
  rw[l6]
  have Ao:=n6.same _ _ vc
  have GG:=n6.same _ _ hf5
  have lA:=df.d5 n6
  by_cases hds:ds=[]
  ·have e:(!ds.isEmpty)=false:=by rw[hds];rfl
   rw[e]
   exact bA (bA (fin (.inl hds) lA GG))
  have e:(!ds.isEmpty)=true:=by cases ds with|nil=>exact absurd rfl hds|cons _ _=>rfl
  rw[e]
  have Nt:0<ds.length:=U1.mpr hds
  refine e7 ⟨_,rfl,_,_,rfl,.inl ⟨_,aE.of GG,rfl⟩,_,rfl,_,_,rfl,rfl,_,rfl,ee (fun e2 =>?_) (fun e2=>fin (.inr fun z=>e2 (decide_eq_true (by rw[A5];exact z))) lA GG)⟩
  have e2:(fs.length:Int)<many:=by have:=of_decide_eq_true e2;rw[A5] at this;exact this
  refine⟨fun σ' H'=>∃m',m'<ds.length/\_,fun _ _ h=>h,?_⟩
  refine⟨_,rfl,.inl ⟨rfl,_,aE.of GG⟩,_,rfl,.inl ⟨rfl,_,aE.of Ao⟩,_,rfl,_,rfl,_,_,rfl,.inl ⟨_,aE.of Ao,rfl⟩,b,c,t5,_,rfl,lA.bx,by omega,by omega,by omega,by omega,fun a H7 a0 a1 rq =>?_⟩
  have Nu:=rq.old Ao lb lc
  have PJ:=rq.old GG fb fc
  have rq:=lA.trans rq
  obtain⟨x,hx⟩:∃x,ds[a.toNat]? = some x:=⟨_,Jf (by omega)⟩
  refine⟨l,_,a,_,rfl,rfl,Nu,a0,by omega,by rw[Jj,hx];rfl,fun H8 c8 =>?_⟩
  have NW:H8 fp=some (.lst (fs.map V.str)):=by rw[c8.ne (Ne.symm lf)];exact PJ
  have vb:=rq.zY c8 hl lb lc
  refine⟨fp,_,_,rfl,rfl,NW,by rw[A5];omega,fun H9 c9 =>?_⟩
  refine⟨(ds.eraseIdx a.toNat).length,by rw[List.length_eraseIdx_of_lt (by omega)];omega,fs++[x],ds.eraseIdx a.toNat,_,rfl,rfl,?_,by rw[Jc];show((fs.length+1:Nat):Int)<=_;omega,(vb.zY c9 hf fb fc).more (by rw[Jc];show _<=(13:Int)+((fs.length+1:Nat):Int);omega),by rw[c9.at,Jh];rfl,by rw[c9.ne lf,c8.at,ud]⟩
  refine Ya.trans ?_ pm
  rw[Ug]
  exact Ya.append_left fs (v9 hx).symm
 intro σ H5
 refine ae.go ?_
 rintro fs t5 x3 rfl jH hfl qP JE df hf5
 exact⟨_,rfl,q fs fp H5 t5 jH hfl qP JE df hf hf5⟩
end
def zc:Sp:=fun vs H Q _=>om fun(b c:Addr) (t many:Int)=>vs=[.ref b,.int many]/\Bx H b c t/\0<=t/\t<1000000/\0<=many/\many<=26 /\
 ∀(xs:List Str) (l:Addr) (H':Hp) (t':Int),(xs.length:Int)=many->xs.Nodup->(∀x∈xs,x.length<=8/\∀ch∈x.cps.toList,ch<=122)->Step b c H H' t t' 300->H l=none->H' l=some (.lst (xs.map V.str))->Q (.ref l) H'
structure Im (i:Nat)(x:Str):Prop extends rV i x where
 sm:∀ch∈x.cps.toList,ch<=122
section
variable {P:Program}{w:World}{K:Jb}{mg:Str->Option Value}{base:Heap}{f:Addr}{fd:FuncData}
theorem yF (F:dh K "_law_names" "_law_names" (top gM) f fd)(T:Nm mg)(aQ:Fn P w K mg base 1 "_law_take" ["_law_state", "_law_many"] uD):bM P w K mg base gU 2 f fd ["_law_state", "_law_many"] zc:=by
 refine F.ok dI (fun vs H Q E h =>?_) (fun dG A outer s H vs Q E hr h =>?_)
 ·obtain⟨b,c,t,many,rfl,_⟩:=h
  rfl
 unfold zc at h
 refine ae.el h _ ?_
 clear h
 rintro b c t many rfl bx t0 t1 m0 m1 q
 refine⟨_,(ah (aI (i:=2) dI.nd rfl (Or.inr rfl) bb)
  (ah (aI (i:=3) dI.nd rfl (Or.inl rfl) (dy ag))
  (ah (dF PassesOwn.never rfl (dj rfl T.n_range (aa (pv 1) ag)) (ai (i:=4) dI.nd rfl (Or.inl rfl)) (ak (cH (oj K PySem.F.plainAttrs_list PySem.F.slot_list_append PySem.F.type_list_append gW (pv 3) (aa (aU dN (oj K PySem.F.plainAttrs_str PySem.F.slot_str_join PySem.F.type_str_join (xR K) bb (aa (bC rfl (aN (Nc:=["_law_j"]) (Fc:=["_law_letters", "_law_state"]) (js:=[2,0])) (dj rfl T.n_range (aa (aY (aQ.mono (by decide)) hr rfl (aa (pv 0) (aa ao ag))) ag)) (aA (i:=0) (n:=1) (by decide)) (fun _ _ _ _ _=>(ai (i:=0) (dX ["_law_j", "_law_letters", "_law_state"]) rfl (Or.inl rfl))) (fun _ _ _ _ _=>br) (fun _ _ _ _ _=>(bK (i9 K) (pv 1) (aY (aQ.mono (by decide)) hr rfl (aa (pv 2) (aa ao ag))) (fun _ _=>rfl)))) ag)) (bK (i9 K) (pv 2) (pv 4) (fun _ _=>rfl))) ag)))))
  (ak (aK (pv 3)))))),?_⟩
 refine gn ⟨by show 0<=sizeLine;decide,fun l H2 n2=>gn ?_⟩
 have hl:H l=none:=n2.nn
 obtain⟨lb,lc⟩:=bx.bX n2.nn
 have bG:Step b c H H2 t t 0:=(Step.refl bx).d5 n2
 refine⟨_,rfl,many,rfl,by omega,by omega,?_⟩
 refine lX (lo:=0) (n:=many.toNat) (fun i σ H'=>fR fun(xs:List Str) (t':Int) (x4:Option V) =>σ=[some (.ref b),some (.int many),some (.str Lp),some (.ref l),x4]/\xs.length=i /\
  (∀(j:Nat) x,xs[j]? = some x->Im j x)/\Step b c H H' t t' (10*i)/\H' l=some (.lst (xs.map V.str))) ⟨[],t,_,rfl,rfl,by simp,by simpa using bG,n2.at⟩ ?_ ?_
 ·intro i σ H3 hi
  refine ae.go ?_
  rintro xs t3 x4 rfl De hx cR gY
  have MD:=cR.ub
  have v7:=cR.le
  refine⟨_,rfl,.inl ⟨rfl,_,aE.of gY⟩,?_⟩
  refine⟨rfl,_,rfl,b,c,t3,8,rfl,cR.bx,by omega,by omega,by decide,by decide,fun m H4 m0 m1 jF =>?_⟩
  have zy:H4 l=some (.lst (xs.map V.str)):=jF.old gY lb lc
  have jF:=(cR.trans jF)
  refine⟨m,rfl,by omega,by omega,?_⟩
  refine bF (N:=m.toNat) (fun k ys H'=>ck fun(zs:List Str) (t':Int)=>ys=zs.map V.str/\zs.length=k/\(∀x∈zs,∃ch:Nat,x=⟨#[ch]⟩/\ch<=122)/\Step b c H H' t t' (10*i+1+k)/\H' l=some (.lst (xs.map V.str))) ⟨[],_,rfl,rfl,(fun _ h=>nomatch h),jF.more (by omega),zy⟩ ?_ ?_
  ·intro k ys H5 Nx hk hz_ nx
   refine ae.el hz_ _ ?_
   clear hz_
   rintro zs t5 rfl Hr hz df vc
   have LU:=df.ub
   have JJ:=df.le
   refine⟨hk,by rw[Ja,Hr];exact J3 (show k<1000 by omega) (by decide),?_⟩
   rintro x H6 ⟨rfl,rfl⟩
   refine⟨_,rfl,_,rfl,b,c,t5,26,rfl,df.bx,by omega,by omega,by decide,by decide,fun d H7 d0 d1 rq =>?_⟩
   refine .inr (.inr ⟨_,d,_,rfl,rfl,by decide +kernel,xP d0 d1,nx _ _ ⟨zs++[⟨#[97+d.toNat]⟩],_,by rw[Jh];rfl,by rw[Jc,Hr];rfl,fun x hx =>?_,(df.trans rq).more (by omega),rq.old vc lb lc⟩⟩)
   rcases Ji.mp hx with h|h
   ·exact hz x h
   ·exact⟨_,Jg.mp h,by omega⟩
  ·intro ys H5
   refine ae.go ?_
   rintro zs t5 rfl Hr hz df vc
   refine⟨Jd _,fun p hp=>⟨_,p,zs,rfl,rfl,aE.of aJ,?_,?_⟩⟩
   ·rw[(kf fun x hx=>by obtain⟨k,e,_⟩:=hz x hx;exact⟨k,e⟩).2]
    show zs.length+zs.length*0<=16777216
    omega
   ·have hn:dz H5 p (.lst (zs.map V.str)) (upd H5 p (.lst (zs.map V.str))):=⟨hp,rfl⟩
    generalize upd H5 p (.lst (zs.map V.str))=H6 at hn ⊢
    have Ao:=hn.same _ _ vc
    have lA:=df.d5 hn
    have Fv:(Txt.join "" zs).length=zs.length:=by
     rw[str_len]
     rw[iu]
     exact(kf fun x hx=>by obtain⟨k,e,_⟩:=hz x hx;exact⟨k,e⟩).1
    have h0:0<=(0:Int)+i:=by omega
    have h1:(0:Int)+i<26:=by omega
    refine⟨_,rfl,_,rfl,.inr (.inr ⟨_,_,_,rfl,rfl,by decide +kernel,xP h0 h1,.inr (.inl ⟨_,_,rfl,rfl,by rw[len_one,Fv];exact sizeOk (by omega),l,_,_,rfl,rfl,Ao,?_,fun H7 c7 =>?_⟩)⟩)⟩
    ·rw[Ja,De];exact J3 (show i<1000 by omega) (by decide)
    ·refine⟨xs++[Txt.join "" zs++⟨#[97+((0:Int)+i).toNat]⟩],t5,_,rfl,by rw[Jc,De];rfl,fun j y hy =>?_,?_,?_⟩
     ·by_cases hj:j<xs.length
      ·rw[Ut hj] at hy
       exact hx j y hy
      ·rw[Ui (by omega)] at hy
       have e:j-xs.length=0:=by
        have:=(Ju.mp hy).1
        simp at this
        omega
       rw[e] at hy
       cases hy
       have ej:j=i:=by omega
       subst ej
       refine⟨⟨by rw[dY,len_one];omega,?_⟩,fun ch hc =>?_⟩
       rotate_left
       ·rw[bz] at hc
        rcases Ji.mp hc with hc|hc
        ·rw[iu] at hc
         refine ae.el (Wy.mp hc) _ ?_
         rintro u hu hc
         refine ae.el (hz u hu) _ ?_
         rintro k rfl hk
         have:ch∈[k]:=hc
         rw[Jg.mp this];exact hk
        ·have:ch∈[97+((0:Int)+j).toNat]:=hc
         rw[Jg.mp this];omega
       rw[bz,List.getLast?_append]
       have:((0:Int)+j).toNat=j:=by omega
       rw[this]
       rfl
     ·exact(lA.zY c7 hl lb lc).more (by omega)
     ·rw[c7.at,Jh]
      rfl
 ·intro σ H3
  refine ae.go ?_
  rintro xs t3 x4 rfl De hx cR gY
  exact⟨_,rfl,q xs l H3 t3 (by omega) (rV.nodup fun i x h=>(hx i x h).torV) (fun x Eh=>by obtain⟨j,hj⟩:=Yb.mp Eh;exact⟨(hx j x hj).le,(hx j x hj).sm⟩) (cR.more (by omega)) hl gY⟩
end
open PyProof.Rows
structure bT (bk:List (Str×Str)):Prop where
 le:bk.length<=16
 nm:(bk.map (·.1)).Nodup
 cd:∀q∈bk,bh 12 q.2
 nl:∀q∈bk,q.1.length<=8
 sm:∀q∈bk,∀ch∈q.1.cps.toList,ch<=122
theorem eW {x:Str}(p:Nat):sg (Txt.slice x (some (p:Int)) none)=(sg x).drop p:=by
 have key:∀p:Nat,p<=x.length->sg (Txt.slice x (some (p:Int)) none)=(sg x).drop p:=fun p h=>by
  rw[PyProof.Rows.slice_from_eq (b:=(x.length:Int)) (by omega) (by omega) rfl]
  show(((sg x).drop (p:Int).toNat).take ((x.length:Int)-p).toNat).toArray.toList=_
  rw[Yk,U9]
  ·rfl
  ·rw[J9,<-str_len];omega
 by_cases h:p<=x.length
 ·exact key p h
 ·have e:Txt.slice x (some (p:Int)) none=Txt.slice x (some ((x.length:Nat):Int)) none:=by
   unfold Txt.slice
   have:PySem.Builtin.Str.strSliceIndices (some (p:Int)) none 1 x.length=PySem.Builtin.Str.strSliceIndices (some ((x.length:Nat):Int)) none 1 x.length:=by
    unfold PySem.Builtin.Str.strSliceIndices
    dsimp only
    congr 1
    all_goals omega
   rw[this]
  rw[e,key _ (Jd _),List.drop_of_length_le (Y2 (str_len x).symm),List.drop_of_length_le (by have:=str_len x;show(sg x).length<=p;change x.length=(sg x).length at this;omega)]
theorem cF {α:Type}[DecidableEq α]:∀{l m:List α},l.Nodup->(∀x∈l,x∈m)->l.length<=m.length
 | [],_,_,_=>Uq _
 | a::l,m,nd,h=>by
  obtain⟨na,yk⟩:=Yd.mp nd
  have hm:=h a Jn
  have ih:=cF (l:=l) (m:=m.erase a) yk fun x hx=>by
   have jH:x≠a:=fun z=>na (z▸hx)
   exact(List.mem_erase_of_ne jH).mpr (h x (Jp _ hx))
  rw[List.length_erase_of_mem hm] at ih
  have:0<m.length:=List.length_pos_of_mem hm
  rw[Jx]
  omega
def LD (B:List (Str×Str))(r:Str):Prop:=∃q∈B,sg r <:+ sg q.2
noncomputable def yy (B:List (Str×Str)):List Str:=B.flatMap fun q=>(Wf (q.2.length+1)).map fun i=>⟨((sg q.2).drop i).toArray⟩
theorem LD.mem {B:List (Str×Str)}{r:Str}(h:LD B r):r∈yy B:=by
 obtain⟨q,hq,hs⟩:=h
 refine Wy.mpr ⟨q,hq,J1.mpr ⟨(sg q.2).length-(sg r).length,Y9.mpr ?_,?_⟩⟩
 ·have e:q.2.length=(sg q.2).length:=str_len q.2
  omega
 ·refine fE ?_
  show((sg q.2).drop _).toArray.toList=_
  rw[Yk]
  exact(List.suffix_iff_eq_drop.mp hs).symm
theorem xk {B:List (Str×Str)}(cd:∀q∈B,bh 12 q.2):(yy B).length<=13*B.length:=by
 induction B with
 | nil=>exact Jd _
 | cons q B ih=>
  have h1:=ih fun x hx=>cd x (Jp _ hx)
  have h2:=(cd q Jn).le
  show(((Wf (q.2.length+1)).map _)++yy B).length<=_
  rw[Jc,Ja,Yt,Jx]
  omega
theorem rL (x:Str×Str):tx [x]=sg x.2:=by unfold tx;simp
theorem wV {kvs:List (Key×V)}{k:Key}{v:V}(nd:(kvs.map (·.1)).Nodup)(h:(k,v)∈kvs):az kvs k=some v:=by
 induction kvs with
 | nil=>cases h
 | cons p r ih=>
  rw[Uc,Yd] at nd
  rcases Um.mp h with rfl|h
  ·exact bR rfl
  ·rw[bH fun z=>nd.1 (by rw[z];exact Uj (f:=(·.1)) h)]
   exact ih nd.2 h
def xu (x r:Str)(n:Nat):Prop:=∃a:Nat,1<=a/\a<n/\sg r=(sg x).drop a
def fg (B:List (Str×Str))(r:Str):Prop:=∃q∈B,xu q.2 r (sg q.2).length
noncomputable def dA (r:Str):Key×V:=(.inr r,.bl true)
theorem mT {ts:List Str}(r:Str):putK (ts.map dA) (.inr r) (.bl true)=(if r∈ts then ts else ts++[r]).map dA:=by
 by_cases h:r∈ts
 ·rw[if_pos h]
  unfold putK
  rw[if_pos (List.any_eq_true.mpr ⟨dA r,Uj h,decide_eq_true rfl⟩),Ym]
  refine List.map_congr_left fun z _ =>?_
  show(if (dA z).1 = .inr r then ((dA z).1,V.bl true) else dA z)=dA z
  split<;>rfl
 ·rw[if_neg h,cM _ (fY fun y hy e=>h ?_),Jh]
  ·rfl
  ·have e:(Sum.inr y:Key) = .inr r:=e
   rw[<-Sum.inr.inj e];exact hy
theorem sI {ts:List Str}{r:Str}(h:ts.Nodup):(if r∈ts then ts else ts++[r]).Nodup:=by
 by_cases hr:r∈ts
 ·rw[if_pos hr];exact h
 ·rw[if_neg hr];exact m5 h hr
theorem kW {ts:List Str}{r x:Str}:x∈(if r∈ts then ts else ts++[r])↔x∈ts∨x=r:=by
 by_cases hr:r∈ts
 ·rw[if_pos hr]
  exact⟨.inl,fun h=>h.elim id fun e=>e▸hr⟩
 ·rw[if_neg hr,Ji,Jg]
theorem pz {ts:List Str}{r:Str}:(if r∈ts then ts else ts++[r]).length<=ts.length+1:=by
 split
 ·omega
 ·rw[Jc];exact Jd _
def yx (K:Jb):Sp:=fun vs H Q _=>ck fun(l:Addr) (B:List (Str×Str))=>vs=[.ref l]/\oh K H B l/\bT B /\
 ∀(ts:List Str) (p:Addr) (H':Hp),aw H H'->H p=none->H' p=some (.lst (ts.map V.str))->ts.Nodup->ts.length<=200->(∀r,r∈ts↔fg B r)->Q (.ref p) H'
section
variable {P:Program}{w:World}{K:Jb}{mg:Str->Option Value}{base:Heap}{f:Addr}{fd:FuncData}
theorem nP:aO ["book"] ["book"] (aB (top gb)):=⟨rfl,rfl,rfl,by decide +kernel,rfl,by decide +kernel,by decide +kernel⟩
theorem Gr (F:dh K "code_ends" "code_ends" (top gb) f fd)(T:Nm mg):bM P w K mg base gU 1 f fd ["book"] (yx K):=by
 refine F.ok nP (fun vs H Q E h =>?_) (fun dG A outer s H vs Q E hr h =>?_)
 ·obtain⟨l,B,rfl,_⟩:=h
  rfl
 unfold yx at h
 refine ae.el h _ ?_
 clear h
 rintro l B rfl hB gB q
 have hle:=gB.le
 refine⟨_,(ak (aK (dJ (DJ rfl) rfl T.n_list (by rfl) (aa (tU rfl (aN (Nc:=["name", "code", "at"]) (Fc:=[]) (js:=[])) (fV K (pv 0)) (dP (aP (aA (i:=0) (n:=3) (by decide)) (aP (aA (i:=1) (n:=3) (by decide)) cY aF aX) aF (bf aF aX))) (fun _ _ _ _ _=>(tupK K 2 rfl (ar (ai (i:=0) (dX ["name", "code", "at"]) rfl (Or.inl rfl)) (ar (ai (i:=1) (dX ["name", "code", "at"]) rfl (Or.inl rfl)) bt)))) (fun _ _ _ _ _=>(mD rfl T.n_range (aa ao (aa (au (dv K) rfl T.n_len (by rfl) (aa (pv 1) ag)) ag)))) (fun _ _ _ _ _=>(ai (i:=2) (dX ["name", "code", "at"]) rfl (Or.inl rfl))) (fun _ _ _ _ _=>(cw (yj K) (pv 1) (dc (pv 2)) cU)) (fun _ _ _ _ _=>dZ)) ag)))),?_⟩
 obtain⟨vs,hl,hd⟩:=id hB
 have hlen:=hZ hd
 refine⟨_,rfl,l,rfl,⟨_,hl⟩,fun D hD =>?_⟩
 refine⟨fun k m H'=>∃ts:List Str,m=B.length-k/\k<=B.length/\aw H H'/\H' D=some (.dK (ts.map dA))/\ts.Nodup/\ts.length<=12*k/\∀r,r∈ts↔fg (B.take k) r,⟨_,[],rfl,Uq _,bS hD _,aJ,List.nodup_nil,Jd _,fun r=>⟨(fun h=>nomatch h),fun⟨q,hq,_⟩=>nomatch hq⟩⟩,?_⟩
 intro k m H1
 refine ae.go ?_
 rintro ts rfl hk sm hD1 nd tl mem
 by_cases cc:k<B.length
 ·refine .inr ⟨?_,?_⟩
  ·refine ae.el (jG hd cc) _ ?_
   rintro tp e1 e2
   exact⟨_,_,sm.seq hl,e1⟩
  rintro x H2 ⟨rfl,hy⟩
  refine ae.el (jG hd cc) _ ?_
  rintro tp e1 e2
  have e:=hy _ (sm.seq hl)
  rw[e1] at e;cases e
  have hc:=(gB.cd _ (Jt cc)).le
  have Ft:=(gB.cd _ (Jt cc)).pos
  have cC:=aH cc
  generalize B[k]=z at e2 hc Ft cC
  have AD:z.2.length=(sg z.2).length:=str_len _
  refine⟨tp,_,rfl,sm.rJ e2,rfl,_,_,rfl,_,_,rfl,rfl,?_⟩
  refine⟨rfl,?_⟩
  have old:∀{r:Str},fg (B.take (k+1)) r↔fg (B.take k) r∨xu z.2 r (sg z.2).length:=fun{r}=>by
   rw[cC]
   refine⟨fun⟨q,hq,h⟩=>?_,fun h =>?_⟩
   ·rcases Ji.mp hq with hq|hq
    ·exact .inl ⟨q,hq,h⟩
    ·rw[Jg.mp hq] at h;exact .inr h
   ·rcases h with ⟨q,hq,h⟩|h
    ·exact⟨q,Ud _ hq,h⟩
    ·exact⟨z,Jk _ (Jg.mpr rfl),h⟩
  refine⟨_,rfl,_,_,rfl,⟨sizeOk (by omega),rfl⟩,1,(z.2.length:Nat),rfl,⟨by omega,by omega,by omega,by omega⟩,?_⟩
  refine⟨fun k2 m2 H'=>∃us:List Str,m2=(z.2.length-1)-k2/\k2<=z.2.length-1/\aw H H'/\H' D=some (.dK (us.map dA))/\us.Nodup/\us.length<=12*k+k2/\∀r,r∈us↔fg (B.take k) r∨xu z.2 r (1+k2),⟨_,ts,rfl,Uq _,sm,hD1,nd,tl,fun r=>(mem r).trans ⟨.inl,fun h=>h.elim id fun⟨a,a1,a2,_⟩=>absurd a2 (by omega)⟩⟩,?_⟩
  intro k2 m2 H3
  refine ae.go ?_
  rintro us rfl hk2 sm3 hD3 nd3 ul mem3
  by_cases h2:k2<z.2.length-1
  ·refine .inr ⟨by show k2<_;omega,?_⟩
   rintro y H4 ⟨rfl,rfl⟩
   refine⟨_,rfl,_,rfl,_,rfl,?_⟩
   dsimp only[fD]
   refine .inr ⟨z.2,rfl,sizeOk (by omega),?_⟩
   have es:=eW (x:=z.2) (1+k2)
   have ei:((1:Int)+(k2:Int))=((1+k2:Nat):Int):=by omega
   rw[ei]
   generalize Txt.slice z.2 (some ((1+k2:Nat):Int)) none=r at es
   refine⟨_,.inr r,hD3,rfl,?_,_,?_,_,rfl,h2,fun b o e =>?_,by rw[mT];exact aJ,sI nd3,?_,fun x =>?_⟩
   ·rw[Ja];exact Jy (show us.length<=1000 by omega) (by decide)
   ·omega
   ·rw[aq (aj e hD)];exact sm3 b o e
   ·have:=pz (ts:=us) (r:=r);omega
   ·rw[kW,mem3]
    refine⟨fun h =>?_,fun h =>?_⟩
    ·rcases h with (h|⟨a,a1,a2,a3⟩)|h
     ·exact .inl h
     ·exact .inr ⟨a,a1,by omega,a3⟩
     ·rw[h];exact .inr ⟨1+k2,by omega,by omega,es⟩
    ·rcases h with h|⟨a,a1,a2,a3⟩
     ·exact .inl (.inl h)
     ·by_cases ea:a=1+k2
      ·exact .inr (fE (by rw[a3,es,ea]))
      ·exact .inl (.inr ⟨a,a1,by omega,a3⟩)
  ·have e2:k2=z.2.length-1:=by omega
   subst e2
   refine .inl ⟨by show _<=_;omega,_,?_,us,rfl,cc,sm3,hD3,nd3,by omega,fun r=>(mem3 r).trans ?_⟩
   ·omega
   ·rw[old,show 1+(z.2.length-1)=(sg z.2).length by omega]
 ·have e:k=B.length:=by omega
  subst e
  rw[Jz] at mem
  refine .inl ⟨⟨_,sm.seq hl,by omega⟩,?_⟩
  refine⟨D,_,rfl,hD1,fun p H2 n2=>q ts p H2 (sm.trans n2.same) ?_ ?_ nd (by omega) mem⟩
  ·cases e:H p with
   | none=>rfl
   | some o=>have:=n2.nn;rw[sm _ _ e] at this;cases this
  ·have e:((ts.map dA).map fun q=>kV q.1)=ts.map V.str:=by rw[Ym];rfl
   rw[<-e];exact n2.at
end
noncomputable def iK (a b:Str):V:=if Txt.startswith a b=true then .str (Txt.slice a (some (b.length:Nat)) none) else if Txt.startswith b a=true then .str (Txt.slice b (some (a.length:Nat)) none) else .non
def nR:Sp:=fun vs H Q _=>∃a b:Str,vs=[.str a,.str b]/\a.length<=1000000/\b.length<=1000000/\Q (iK a b) H
section
variable {P:Program}{w:World}{K:Jb}{mg:Str->Option Value}{base:Heap}{f:Addr}{fd:FuncData}
theorem zV:aO ["one", "other"] ["one", "other"] (aB (top ja)):=⟨rfl,rfl,rfl,by decide +kernel,rfl,by decide +kernel,by decide +kernel⟩
theorem zD (F:dh K "rest_of" "rest_of" (top ja) f fd)(T:Nm mg):bM P w K mg base gU 1 f fd ["one", "other"] nR:=by
 refine F.ok zV (fun vs H Q E h =>?_) (fun dG A outer s H vs Q E hr h =>?_)
 ·obtain⟨a,b,rfl,_⟩:=h
  rfl
 unfold nR at h
 refine ae.el h _ ?_
 clear h
 rintro a b rfl ha hb q
 refine⟨_,(ah (bV (cQ (oj K PySem.F.plainAttrs_str PySem.F.slot_str_startswith PySem.F.type_str_startswith g8 (pv 0) (aa (pv 1) ag))) (ak (aK (cw (MC K) (pv 0) (dc (au (dv K) rfl T.n_len (by rfl) (aa (pv 1) ag))) cU))) aW)
  (ah (bV (cQ (oj K PySem.F.plainAttrs_str PySem.F.slot_str_startswith PySem.F.type_str_startswith g8 (pv 1) (aa (pv 0) ag))) (ak (aK (cw (MC K) (pv 1) (dc (au (dv K) rfl T.n_len (by rfl) (aa (pv 0) ag))) cU))) aW)
  (ak (aK cV)))),?_⟩
 unfold iK at q
 refine⟨_,rfl,rfl,_,rfl,a,b,rfl,rfl,_,rfl,?_⟩
 refine ee (fun c =>?_) (fun c =>?_)
 ·rw[if_pos c] at q
  exact⟨_,rfl,_,rfl,_,_,rfl,⟨sizeOk (Js hb (by decide)),rfl⟩,_,rfl,.inr ⟨a,rfl,sizeOk (Js ha (by decide)),q⟩⟩
 ·rw[if_neg c] at q
  refine⟨_,rfl,rfl,_,rfl,b,a,rfl,rfl,_,rfl,?_⟩
  refine ee (fun c =>?_) (fun c =>?_)
  ·rw[if_pos c] at q
   exact⟨_,rfl,_,rfl,_,_,rfl,⟨sizeOk (Js ha (by decide)),rfl⟩,_,rfl,.inr ⟨b,rfl,sizeOk (Js hb (by decide)),q⟩⟩
  ·rw[if_neg c] at q
   exact q
end
def yZ:Sp:=fun vs H Q _=>∃t:Str,vs=[.str t]/\t.length<=100000/\∀z H',dz H z (.tup [.int t.length,.str t]) H'->Q (.ref z) H'
section
variable {P:Program}{w:World}{K:Jb}{mg:Str->Option Value}{base:Heap}{f:Addr}{fd:FuncData}
theorem jK:aO ["text"] ["text"] (aB (top dQ)):=⟨rfl,rfl,rfl,by decide +kernel,rfl,by decide +kernel,by decide +kernel⟩
theorem DR (F:dh K "length_first" "length_first" (top dQ) f fd)(T:Nm mg):bM P w K mg base gU 1 f fd ["text"] yZ:=by
 refine F.ok jK (fun vs H Q E h =>?_) (fun dG A outer s H vs Q E hr h =>?_)
 ·obtain⟨t,rfl,_⟩:=h
  rfl
 unfold yZ at h
 refine ae.el h _ ?_
 clear h
 rintro t rfl ht q
 refine⟨_,(ak (aK (fu (aa (au (dv K) rfl T.n_len (by rfl) (aa (pv 0) ag)) (aa (pv 0) ag))))),?_⟩
 exact⟨_,rfl,_,_,rfl,⟨sizeOk (by omega),rfl⟩,_,rfl,by show 2<=sizeLine;decide,fun p H' n=>q p H' n⟩
end
def Bh (q:Str×Str)(x r:Str):Prop:=iK x q.2 = .str r/\r ≠ ""
theorem v5 (x y:Str):iK x y = .non∨∃r,iK x y = .str r:=by
 unfold iK
 split
 ·exact .inr ⟨_,rfl⟩
 ·split
  ·exact .inr ⟨_,rfl⟩
  ·exact .inl rfl
noncomputable abbrev C9:=Addr×(Str×Str)×Str
def vh (H:Hp)(z:C9):Prop:=H z.1=some (.tup [.str z.2.1.1,.str z.2.1.2,.str z.2.2])
def xa (K:Jb):Sp:=fun vs H Q _=>fR fun(l:Addr) (x:Str) (B:List (Str×Str))=>vs=[.ref l,.str x]/\oh K H B l/\bT B/\x.length<=12 /\
 ∀(as:List C9) (p:Addr) (H':Hp),aw H H'->H p=none->H' p=some (.lst (as.map fun z=>V.ref z.1))->as.length<=16->(∀z∈as,vh H' z/\z.2.1∈B/\Bh z.2.1 x z.2.2)->(∀q∈B,∀r,Bh q x r->∃z∈as,z.2.1=q/\z.2.2=r)->Q (.ref p) H'
def wx (K:Jb):Sp:=fun vs H Q _=>ck fun(l:Addr) (B:List (Str×Str))=>vs=[.ref l]/\oh K H B l/\bT B /\
 ∀(ts:List Str) (p:Addr) (H':Hp),aw H H'->H p=none->H' p=some (.lst (ts.map V.str))->ts.Nodup->ts.length<=200->(∀r,r∈ts↔fg B r)->Q (.ref p) H'
theorem fg.len {B:List (Str×Str)}(g:bT B){r:Str}(h:fg B r):r.length<=12/\1<=r.length:=by
 obtain⟨q,hq,a,a1,a2,e⟩:=h
 have h1:=(g.cd q hq).le
 have e1:q.2.length=(sg q.2).length:=str_len _
 have e2:r.length=(sg r).length:=str_len _
 rw[e,J9] at e2
 omega
section
variable {P:Program}{w:World}{K:Jb}{mg:Str->Option Value}{base:Heap}{f:Addr}{fd:FuncData}
theorem qO:aO ["book"] ["book"] (aB (top ji)):=⟨rfl,rfl,rfl,by decide +kernel,rfl,by decide +kernel,by decide +kernel⟩
theorem DT (F:dh K "lags_of" "lags_of" (top ji) f fd)(T:Nm mg)(eZ:mg "sorted" = none)(oD:Fn P w K mg base 1 "code_ends" ["book"] (yx K))(kR:Fn P w K mg base 1 "length_first" ["text"] yZ):bM P w K mg base gU 4 f fd ["book"] (wx K):=by
 refine ae.el (kR.ex) _ ?_
 rintro ky_length_first fdk FK_length_first BK_length_first _ GK_length_first
 refine F.ok qO (fun vs H Q E h =>?_) (fun dG A outer s H vs Q E hr h =>?_)
 ·obtain⟨l,B,rfl,_⟩:=h
  rfl
 unfold wx at h
 refine ae.el h _ ?_
 clear h
 rintro l B rfl hB gB q
 refine⟨_,(ak (aK (uF (vE K (BW FK_length_first (hr.mono (by decide)) BK_length_first)) rfl eZ (by rfl) (aa (aY (oD.mono (by decide)) hr rfl (aa (pv 0) ag)) ag) (yl (zE (v := .ref ky_length_first) rfl GK_length_first rfl) CD)))),?_⟩
 refine⟨_,rfl,l,B,rfl,hB,gB,fun ts p H1 s1 sf eU nd tl mem =>?_⟩
 refine⟨p,ts,rfl,rfl,aE.of eU,fun t ht Hj =>?_,fun us p2 H2 perm _ s2 uk h2 =>?_⟩
 ·have:=((mem t).mp ht).len gB
  exact⟨t,rfl,by omega,fun z H' n=>⟨z,rfl,n⟩⟩
 ·refine q us p2 H2 (s1.trans s2) ?_ h2 (perm.nodup_iff.mpr nd) (by rw[perm.length_eq];exact tl) fun r=>(perm.mem_iff).trans (mem r)
  cases e:H p2 with
  | none=>rfl
  | some o=>rw[s1 _ _ e] at uk;cases uk
theorem gh:aO ["book", "lag", "rests"] ["book", "lag"] (aB (top eS)):=⟨rfl,rfl,rfl,by decide +kernel,rfl,by decide +kernel,by decide +kernel⟩
theorem Fs (F:dh K "lags_behind" "lags_behind" (top eS) f fd)(T:Nm mg)(uq:Fn P w K mg base 1 "rest_of" ["one", "other"] nR):bM P w K mg base gU 2 f fd ["book", "lag"] (xa K):=by
 refine F.ok gh (fun vs H Q E h =>?_) (fun dG A outer s H vs Q E hr h =>?_)
 ·obtain⟨l,x,B,rfl,_⟩:=h
  rfl
 unfold xa at h
 refine ae.el h _ ?_
 clear h
 rintro l x B rfl hB gB hx q
 have fO:=hr.units
 have hle:=gB.le
 refine⟨_,(ah (bw (i:=2) gh.nd rfl (Or.inl rfl) rfl (aN (Nc:=["name", "code"]) (Fc:=["lag"]) (js:=[1])) (fV K (pv 0)) (dP (aP (aA (i:=0) (n:=2) (by decide)) (aP (aA (i:=1) (n:=2) (by decide)) cY aF aX) aF (bf aF aX))) (fun _ _ _ _ _=>(tupK K 2 rfl (ar (ai (i:=0) (dX ["name", "code", "lag"]) rfl (Or.inl rfl)) (ar (ai (i:=1) (dX ["name", "code", "lag"]) rfl (Or.inl rfl)) bt)))) (fun _ _ _ _ _=>br) (fun _ _ _ _ _=>(fu (aa (pv 0) (aa (pv 1) (aa (aY (uq.mono (by decide)) hr rfl (aa (pv 2) (aa (pv 1) ag))) ag))))))
  (ak (aK (bC rfl (aN (Nc:=["name", "code", "rest"]) (Fc:=[]) (js:=[])) (fV K (pv 2)) (dP (aP (aA (i:=0) (n:=3) (by decide)) (aP (aA (i:=1) (n:=3) (by decide)) (aP (aA (i:=2) (n:=3) (by decide)) cY aF aX) aF (bf aF aX)) aF (bf aF (bf aF aX)))) (fun _ _ _ _ _=>(tupK K 3 rfl (ar (ai (i:=0) (dX ["name", "code", "rest"]) rfl (Or.inl rfl)) (ar (ai (i:=1) (dX ["name", "code", "rest"]) rfl (Or.inl rfl)) (ar (ai (i:=2) (dX ["name", "code", "rest"]) rfl (Or.inl rfl)) bt))))) (fun _ _ _ _ _=>(cO (PW.pt (lh (aG jU (pv 2) cV (aM _)) (iI (aG (rK K fO) (pv 2) bb (aM _))))))) (fun _ _ _ _ _=>(fu (aa (pv 0) (aa (pv 1) (aa (pv 2) ag))))))))),?_⟩
 obtain⟨vs,hv,hd⟩:=id hB
 have hlen:=hZ hd
 have small:∀{n:Nat},n<=1000->n<sizeLine:=fun h=>Jy h (by decide)
 refine cj (te:=dU _ _ _ _ _ _) (fun v H'=>ck fun(p:Addr) (bs:List Addr)=>v = .ref p/\aw H H'/\H p=none/\H' p=some (.lst (bs.map V.ref))/\bs.length=B.length/\∀(i:Nat) (a:Addr) (hi:i<B.length),bs[i]? = some a->H' a=some (.tup [.str B[i].1,.str B[i].2,iK x B[i].2])) (fun Qn qn =>?_) ?_
 ·refine⟨_,rfl,l,rfl,⟨_,hv⟩,?_⟩
  refine cX (N:=B.length) (fun i ys H'=>∃bs:List Addr,aw H H'/\ys=bs.map V.ref/\bs.length=i/\∀(j:Nat) (a:Addr) (hj:j<B.length),bs[j]? = some a->H' a=some (.tup [.str B[j].1,.str B[j].2,iK x B[j].2])) ⟨[],aw.refl _,rfl,rfl,fun j a hj h=>nomatch h⟩ ?_ ?_
  ·intro i ys H1 Ny hi hz_ ny
   refine ae.el hz_ _ ?_
   clear hz_
   rintro bs s1 rfl bl hb
   refine ae.el (jG hd hi) _ ?_
   rintro tp e1 e2
   refine⟨⟨_,_,s1.seq hv,e1⟩,small (by rw[Ja];omega),?_⟩
   rintro y H2 ⟨rfl,hy⟩
   have e:=hy _ (s1.seq hv)
   rw[e1] at e;cases e
   have hc:=(gB.cd _ (Jt hi)).le
   refine⟨tp,_,rfl,s1.rJ e2,rfl,_,_,rfl,_,_,rfl,rfl,?_⟩
   refine⟨_,rfl,_,rfl,_,rfl,_,rfl,x,B[i].2,rfl,by omega,by omega,by show 3<=sizeLine;decide,fun a H3 n3=>ny _ _ ⟨bs++[a],s1.trans n3.same,by rw[Jh];rfl,by rw[Jc,bl];rfl,fun j a' hj h =>?_⟩⟩
   by_cases hji:j<i
   ·rw[Ut (by omega)] at h
    exact n3.same _ _ (hb j a' hj h)
   ·rw[Ui (by omega),bl] at h
    have e0:j-i=0:=by
     cases hz:j-i with
     | zero=>rfl
     | succ k=>rw[hz] at h;cases h
    have ej:j=i:=by omega
    subst ej
    rw[e0] at h
    cases h
    exact n3.at
  ·intro ys H1
   refine ae.go ?_
   rintro bs s1 rfl bl hb
   refine⟨⟨_,s1.seq hv,by omega⟩,fun p H2 n2=>qn _ _ ⟨p,bs,rfl,s1.trans n2.same,?_,n2.at,bl,fun j a hj h=>n2.same _ _ (hb j a hj h)⟩⟩
   cases e:H p with
   | none=>rfl
   | some o=>have:=n2.nn;rw[s1 _ _ e] at this;cases this
 intro v H1
 refine ae.go ?_
 rintro p1 bs rfl s1 hp10 eU bl hb
 refine gn ?_
 have fW:∀{i:Nat} (hi:i<B.length),∃a,bs[i]? = some a/\(bs.map V.ref)[i]? = some (.ref a):=fun{i} hi=>⟨bs[i]'(by omega),Jf (by omega),by rw[Jj,Jf (by omega)];rfl⟩
 refine⟨_,rfl,p1,rfl,⟨_,aE.of eU⟩,?_⟩
 refine bF (N:=B.length) (fun i ys H'=>∃as:List C9,aw H1 H'/\ys=as.map (fun z=>V.ref z.1)/\as.length<=i/\(∀z∈as,vh H' z/\z.2.1∈B/\Bh z.2.1 x z.2.2)/\∀q∈B.take i,∀r,Bh q x r->∃z∈as,z.2.1=q/\z.2.2=r) ⟨[],aw.refl _,rfl,Jd _,(fun z h=>nomatch h),fun q h=>nomatch h⟩ ?_ ?_
 ·intro i ys H2 Ny hi hz_ ny
  refine ae.el hz_ _ ?_
  clear hz_
  rintro as s2 rfl al ha hcv
  refine ae.el (fW hi) _ ?_
  rintro a ea ea'
  refine⟨⟨_,_,aE.of (s2 _ _ eU),ea'⟩,small (by rw[Ja];omega),?_⟩
  rintro y H3 ⟨rfl,hy⟩
  have e:=hy _ (aE.of (s2 _ _ eU))
  rw[ea'] at e;cases e
  have Mt:=s2 _ _ (hb i a hi ea)
  have hm:=Jt hi
  have cC:=aH hi
  generalize B[i]=z at Mt hm cC
  refine⟨a,_,rfl,d9.of Mt,rfl,_,_,rfl,_,_,rfl,_,_,rfl,rfl,?_⟩
  rcases v5 x z.2 with e|⟨r,e⟩
  ·rw[e]
   refine⟨_,rfl,.inl ⟨rfl,_,rfl,bA (ny _ _ ⟨as,s2,rfl,by omega,ha,fun q hq r' fA =>?_⟩)⟩⟩
   rw[cC] at hq
   rcases Ji.mp hq with hq|hq
   ·exact hcv q hq r' fA
   ·rw[Jg.mp hq] at fA
    have:=fA.1
    rw[e] at this;cases this
  ·rw[e]
   refine⟨_,rfl,.inl ⟨rfl,_,rfl,e7 ?_⟩⟩
   have ed:(!decide (V.str r=V.str (Str.ofString ""))) = !decide (r = ""):=congrArg (! ·) (decide_eq_decide.mpr ⟨fun h=>(by injection h),fun h=>by rw[h]⟩)
   refine⟨_,rfl,.inl ⟨rfl,_,rfl,?_⟩⟩
   rw[ed]
   by_cases er:r = ""
   ·rw[decide_eq_true er]
    refine bA (ny _ _ ⟨as,s2,rfl,by omega,ha,fun q hq r' fA =>?_⟩)
    rw[cC] at hq
    rcases Ji.mp hq with hq|hq
    ·exact hcv q hq r' fA
    ·rw[Jg.mp hq] at fA
     have h1:=fA.1
     rw[e] at h1
     injection h1 with h1
     exact absurd (h1▸er) fA.2
   ·rw[decide_eq_false er]
    refine e7 ⟨_,rfl,_,rfl,_,rfl,by show 3<=sizeLine;decide,fun a2 H4 n4=>ny _ _ ⟨as++[(a2,z,r)],s2.trans n4.same,by rw[Jh];rfl,by rw[Jc];exact Wh al,fun y hy =>?_,fun q hq r' fA =>?_⟩⟩
    ·rcases Ji.mp hy with hy|hy
     ·obtain⟨h1,h2⟩:=ha y hy
      exact⟨n4.same _ _ h1,h2⟩
     ·rw[Jg.mp hy]
      exact⟨n4.at,hm,e,er⟩
    ·rw[cC] at hq
     rcases Ji.mp hq with hq|hq
     ·refine ae.el (hcv q hq r' fA) _ ?_
      rintro y hy eq ey
      exact⟨y,Ud _ hy,eq,ey⟩
     ·rw[Jg.mp hq] at fA
      have h1:=fA.1
      rw[e] at h1
      injection h1 with h1
      exact⟨(a2,z,r),Jk _ (Jg.mpr rfl),(Jg.mp hq).symm,h1⟩
 ·intro ys H2
  refine ae.go ?_
  rintro as s2 rfl al ha hcv
  rw[Jz] at hcv
  refine⟨⟨_,aE.of (s2 _ _ eU),by rw[Ja];omega⟩,fun p3 hp3 =>?_⟩
  have n3:dz H2 p3 (.lst (as.map fun z=>V.ref z.1)) (upd H2 p3 (.lst (as.map fun z=>V.ref z.1))):=⟨hp3,rfl⟩
  refine q as p3 _ ((s1.trans s2).trans n3.same) ?_ n3.at (by omega) (fun z hz=>⟨n3.same _ _ (ha z hz).1,(ha z hz).2⟩) hcv
  cases e:H p3 with
  | none=>rfl
  | some o=>rw[s2 _ _ (s1 _ _ e)] at hp3;cases hp3
end
theorem mN:∀(fs E:List Str),E.Nodup->∃N:List Str,cP (E.map dA) (fs.map dA)=(E++N).map dA/\(E++N).Nodup/\(∀x∈N,x∈fs)/\∀x,x∈E++N↔x∈E∨x∈fs
 | [],E,nd=>⟨[],by rw[Uh];rfl,by rw[Uh];exact nd,(fun x h=>nomatch h),fun x=>by rw[Uh];exact⟨.inl,fun h=>h.elim id fun h=>nomatch h⟩⟩
 | f::fs,E,nd=>by
  refine ae.el (mN fs (if f∈E then E else E++[f]) (sI nd)) _ ?_
  rintro N h1 h2 h3 h4
  have e:∃M,(if f∈E then E else E++[f])++N=E++M/\∀x∈M,x∈f::fs:=by
   by_cases hf:f∈E
   ·rw[if_pos hf];exact⟨N,rfl,fun x hx=>Jp _ (h3 x hx)⟩
   ·rw[if_neg hf,Ug]
    refine⟨[f]++N,rfl,fun x hx =>?_⟩
    rcases Ji.mp hx with hx|hx
    ·rw[Jg.mp hx];exact Jn
    ·exact Jp _ (h3 x hx)
  refine ae.el (e) _ ?_
  rintro M e hM
  rw[e] at h1 h2 h4
  refine⟨M,?_,h2,hM,fun x=>(h4 x).trans ?_⟩
  ·rw[<-h1]
   show cP (putK (E.map dA) (.inr f) (.bl true)) (fs.map dA)=_
   rw[mT]
  ·rw[kW,Um]
   exact⟨fun h=>h.elim (fun h=>h.elim .inl fun h =>.inr (.inl h)) fun h =>.inr (.inr h),fun h=>h.elim (fun h =>.inl (.inl h)) fun h=>h.elim (fun h =>.inl (.inr h)) .inr⟩
def kF (B:List (Str×Str))(E:List Str):Prop:=∀E1 r E2,E=E1++r::E2->∀q∈B,∀r',Bh q r r'->r'∈E1
theorem kF.more {B:List (Str×Str)}{E N:List Str}(h:kF B E)(hN:∀r∈N,∀q∈B,∀r',Bh q r r'->r'∈E):kF B (E++N):=by
 intro E1 r E2 e q hq r' hb
 rcases List.append_eq_append_iff.mp e with ⟨as,h1,h2⟩|⟨cs,h1,h2⟩
 ·rw[h1]
  exact Ud _ (hN r (by rw[h2];exact Jk _ Jn) q hq r' hb)
 ·cases cs with
  | nil=>
   rw[Uh] at h1
   rw[<-h1]
   exact hN r (by rw[<-List.nil_append N,<-h2];exact Jn) q hq r' hb
  | cons c cs=>
   obtain⟨rfl,_⟩:=List.cons.inj h2
   exact h E1 r cs h1 q hq r' hb
theorem o5 (E:List Str):(E.map dA).map (·.1)=E.map Sum.inr:=by rw[Ym];rfl
theorem fF {E:List Str}{r:Str}:(az (E.map dA) (.inr r)).isSome=true↔r∈E:=by
 cases hv:az (E.map dA) (.inr r) with
 | none=>
  refine⟨(fun h=>nomatch h),fun h=>absurd ?_ (iM hv)⟩
  rw[o5];exact Uj h
 | some v=>
  refine⟨fun _ =>?_,fun _=>rfl⟩
  have:=tj hv
  rw[o5] at this
  refine ae.el (J1.mp this) _ ?_
  rintro x hx e
  rw[<-Sum.inr.inj e];exact hx
def zr (K:Jb):Sp:=fun vs H Q _=>ck fun(l:Addr) (B:List (Str×Str))=>vs=[.ref l]/\oh K H B l/\bT B /\
 ∀(d:Addr) (E:List Str) (H':Hp),aw H H'->H d=none->H' d=some (.dK (E.map dA))->E.Nodup->kF B E->(∀r∈E,fg B r)->(∀r,fg B r->r∉E->∃q∈B,∃r',Bh q r r'/\r'∉E)->Q (.ref d) H'
def iC (B:List (Str×Str))(H:Hp)(zs:List (Str×Addr)):Prop:=∀z∈zs,∃ls:List Str,H z.2=some (.lst (ls.map V.str))/\ls.length<=16/\∀r,r∈ls ↔ ∃q∈B,Bh q z.1 r
theorem iC.same {B:List (Str×Str)}{H H':Hp}{zs:List (Str×Addr)}(h:iC B H zs)(s:aw H H'):iC B H' zs:=fun z hz=>by
 obtain⟨ls,h1,h2⟩:=h z hz
 exact⟨ls,s _ _ h1,h2⟩
theorem iC.off {B:List (Str×Str)}{H H':Hp}{zs:List (Str×Addr)}{d:Addr}{kvs:List (Key×V)}(h:iC B H zs)(hd:H d=some (.dK kvs))(s:lj H d (.dK kvs) H'∨∃k2,lj H d (.dK k2) H'):iC B H' zs:=fun z hz=>by
 obtain⟨ls,h1,h2⟩:=h z hz
 refine⟨ls,?_,h2⟩
 have ne:z.2≠d:=fun e=>by rw[e,hd] at h1;cases h1
 rcases s with s|⟨k2,s⟩
 ·rw[s.ne ne];exact h1
 ·rw[s.ne ne];exact h1
noncomputable def A6 (z:Str×Addr):Key×V:=(.inr z.1,.ref z.2)
section
variable {P:Program}{w:World}{K:Jb}{mg:Str->Option Value}{base:Heap}{f:Addr}{fd:FuncData}
theorem bD:aO ["book", "left", "laters", "ending", "found"] ["book"] (aB (top eQ)):=⟨rfl,rfl,rfl,by decide +kernel,rfl,by decide +kernel,by decide +kernel⟩
theorem DE (F:dh K "ending_lags" "ending_lags" (top eQ) f fd)(T:Nm mg)(jg:Fn P w K mg base 4 "lags_of" ["book"] (wx K))(eR:Fn P w K mg base 2 "lags_behind" ["book", "lag"] (xa K)):bM P w K mg base gU 5 f fd ["book"] (zr K):=by
 refine F.ok bD (fun vs H Q E h =>?_) (fun dG A outer s H vs Q E hr h =>?_)
 ·obtain⟨l,B,rfl,_⟩:=h
  rfl
 unfold zr at h
 refine ae.el h _ ?_
 clear h
 rintro l B rfl hB gB q
 have hu:=eY hr
 have hle:=gB.le
 have small:∀{n:Nat},n<=1000->n<sizeLine:=fun h=>Jy h (by decide)
 refine⟨_,(ah (aI (i:=1) bD.nd rfl (Or.inl rfl) (aY (jg.mono (by decide)) hr rfl (aa (pv 0) ag)))
  (ah (aI (i:=2) bD.nd rfl (Or.inr rfl) (iP rfl (aN (Nc:=["lag"]) (Fc:=["book"]) (js:=[0])) (fV K (pv 1)) (aA (i:=0) (n:=1) (by decide)) (fun _ _ _ _ _=>(ai (i:=0) (dX ["lag", "book"]) rfl (Or.inl rfl))) (fun _ _ _ _ _=>br) (fun _ _ _ _ _=>(pv 0)) (fun _ _ _ _ _=>(bC rfl (aN (Nc:=["name", "code", "later"]) (Fc:=[]) (js:=[])) (fV K (aY (eR.mono (by decide)) hr rfl (aa (pv 1) (aa (pv 0) ag)))) (dP (aP (aA (i:=0) (n:=3) (by decide)) (aP (aA (i:=1) (n:=3) (by decide)) (aP (aA (i:=2) (n:=3) (by decide)) cY aF aX) aF (bf aF aX)) aF (bf aF (bf aF aX)))) (fun _ _ _ _ _=>(tupK K 3 rfl (ar (ai (i:=0) (dX ["name", "code", "later"]) rfl (Or.inl rfl)) (ar (ai (i:=1) (dX ["name", "code", "later"]) rfl (Or.inl rfl)) (ar (ai (i:=2) (dX ["name", "code", "later"]) rfl (Or.inl rfl)) bt))))) (fun _ _ _ _ _=>br) (fun _ _ _ _ _=>(pv 2))))))
  (ah (aI (i:=3) bD.nd rfl (Or.inr rfl) xJ)
  (ah (aI (i:=4) bD.nd rfl (Or.inl rfl) (dJ (An K) rfl T.n_list (by rfl) (aa (pv 1) ag)))
  (ah (gi PassesOwn.never (xb (pv 4) fun _=>rfl) (ah (bw (i:=4) bD.nd rfl (Or.inl rfl) rfl (aN (Nc:=["lag"]) (Fc:=["ending", "laters"]) (js:=[3,2])) (fV K (pv 1)) (aA (i:=0) (n:=1) (by decide)) (fun _ _ _ _ _=>(ai (i:=0) (dX ["lag", "ending", "laters"]) rfl (Or.inl rfl))) (fun _ _ _ _ _=>(cO (cQ (au (vW K rfl) rfl T.n_all (by rfl) (aa (bC rfl (aN (Nc:=["later"]) (Fc:=["ending"]) (js:=[1])) (fV K (cu hu (pv 2) (pv 0) (fun _ _=>rfl))) (aA (i:=0) (n:=1) (by decide)) (fun _ _ _ _ _=>(ai (i:=0) (dX ["later", "ending"]) rfl (Or.inl rfl))) (fun _ _ _ _ _=>br) (fun _ _ _ _ _=>(rh (vO hu (pv 0) (pv 1))))) ag))))) (fun _ _ _ _ _=>(pv 0)))
  (ah (cH (oj K PySem.F.plainAttrs_dict PySem.F.slot_dict_update PySem.F.type_dict_update zF (pv 3) (aa (iP rfl (aN (Nc:=["lag"]) (Fc:=[]) (js:=[])) (fV K (pv 4)) (aA (i:=0) (n:=1) (by decide)) (fun _ _ _ _ _=>(ai (i:=0) (dX ["lag"]) rfl (Or.inl rfl))) (fun _ _ _ _ _=>br) (fun _ _ _ _ _=>(pv 0)) (fun _ _ _ _ _=>dZ)) ag)))
  (ak (bw (i:=1) bD.nd rfl (Or.inl rfl) rfl (aN (Nc:=["lag"]) (Fc:=["ending"]) (js:=[3])) (fV K (pv 1)) (aA (i:=0) (n:=1) (by decide)) (fun _ _ _ _ _=>(ai (i:=0) (dX ["lag", "ending"]) rfl (Or.inl rfl))) (fun _ _ _ _ _=>(cO (fX (cI hu (pv 0) (pv 1))))) (fun _ _ _ _ _=>(pv 0)))))))
  (ak (aK (pv 3)))))))),?_⟩
 refine⟨_,rfl,l,B,rfl,hB,gB,fun ts p1 H1 s1 hp10 eU nd tl mem=>gn ?_⟩
 have fW:∀{xs:List Str} {i:Nat} (hi:i<xs.length),(xs.map V.str)[i]? = some (.str xs[i]):=fun hi=>by rw[Jj,Jf hi];rfl
 dsimp only
 refine cj (te:=je _ _ _ _ _ _ _) (fun v H'=>ck fun(D:Addr) (zs:List (Str×Addr))=>v = .ref D/\aw H1 H'/\H1 D=none/\H' D=some (.dK (zs.map A6))/\zs.map (·.1)=ts/\iC B H' zs) (fun Qn qn =>?_) ?_
 ·refine⟨_,rfl,p1,rfl,⟨_,aE.of eU⟩,fun D hD =>?_⟩
  refine⟨fun i m H'=>∃zs:List (Str×Addr),m=ts.length-i/\i<=ts.length/\aw H1 H'/\H' D=some (.dK (zs.map A6))/\zs.map (·.1)=ts.take i/\iC B H' zs,⟨_,[],rfl,Uq _,bS hD _,aJ,rfl,fun z hz=>nomatch hz⟩,?_⟩
  intro i m H2
  refine ae.go ?_
  rintro zs rfl hi s2 hD2 ez lt2
  by_cases cc:i<ts.length
  ·refine .inr ⟨⟨_,_,aE.of (s2 _ _ eU),fW cc⟩,?_⟩
   rintro y H3 ⟨rfl,hy⟩
   have e:=hy _ (aE.of (s2 _ _ eU))
   rw[fW cc] at e;cases e
   refine gn ?_
   dsimp only[kN]
   rw[if_pos rfl]
   have yJ:=((mem _).mp (Jt cc)).len gB
   have cC:=aH cc
   have qX:ts[i]∉ts.take i:=fun h=>by
    refine ae.el (U2.mp h) _ ?_
    rintro j hj ej
    rw[Jr] at hj
    rw[List.getElem_take] at ej
    have:=(List.getElem_inj nd).mp ej
    omega
   generalize ts[i]=x at yJ cC qX
   refine⟨_,rfl,_,rfl,_,rfl,l,x,B,rfl,hB.same (s1.trans s2),gB,by omega,fun as p4 H4 s4 hp40 hp4 al ha hcv =>?_⟩
   have DY:∀{j:Nat} (hj:j<as.length),(as.map fun z=>V.ref z.1)[j]? = some (.ref as[j].1):=fun hj=>by rw[Jj,Jf hj];rfl
   refine⟨p4,rfl,⟨_,aE.of hp4⟩,?_⟩
   refine bF (N:=as.length) (fun j ys H'=>H'=H4/\ys=((as.take j).map (·.2.2)).map V.str) ⟨rfl,rfl⟩ ?_ ?_
   ·rintro j ys H5 Ny hj ⟨rfl,rfl⟩ ny
    refine⟨⟨_,_,aE.of hp4,DY hj⟩,small (by rw[Ja,Ja,Jr];omega),?_⟩
    rintro y H6 ⟨rfl,hy⟩
    have e:=hy _ (aE.of hp4)
    rw[DY hj] at e;cases e
    have hz:=(ha _ (Jt hj)).1
    refine⟨_,_,rfl,d9.of hz,rfl,_,_,rfl,_,_,rfl,_,_,rfl,rfl,_,rfl,ny _ _ ⟨rfl,?_⟩⟩
    rw[aH hj,Jh,Jh];rfl
   ·rintro ys H5 ⟨rfl,rfl⟩
    refine⟨⟨_,aE.of hp4,by rw[Ja];exact Jd _⟩,fun p6 zC =>?_⟩
    rw[Jz]
    have n6:dz H5 p6 (.lst ((as.map (·.2.2)).map V.str)) (upd H5 p6 (.lst ((as.map (·.2.2)).map V.str))):=⟨zC,rfl⟩
    generalize upd H5 p6 (.lst ((as.map (·.2.2)).map V.str))=H6 at n6 ⊢
    have AF:=s4.trans n6.same
    have zl:zs.length=i:=by
     have:=congrArg Ur ez
     rw[Ja,Jr] at this
     omega
    refine⟨zs.map A6,.inr x,AF _ _ hD2,rfl,small (by rw[Ja];omega),ts.length-(i+1),by omega,zs++[(x,p6)],rfl,cc,fun b o e =>?_,?_,by rw[Jh,cC,ez];rfl,fun z hz =>?_⟩
    ·rw[aq (aj e hD)];exact AF _ _ (s2 b o e)
    ·rw[cM _ (fY fun y hy e=>qX ?_),Jh]
     ·exact aJ
     ·rw[<-ez]
      have e:(Sum.inr y.1:Key) = .inr x:=e
      rw[<-Sum.inr.inj e]
      exact Uj hy
    ·have keep:∀{a:Addr} {o:List V},H6 a=some (.lst o)->upd H6 D (.dK (putK (zs.map A6) (.inr x) (.ref p6))) a=some (.lst o):=fun{a o} e=>by
      rw[aq (fun z=>by rw[z,AF _ _ hD2] at e;cases e)];exact e
     rcases Ji.mp hz with hz|hz
     ·obtain⟨ls,h1,h2⟩:=lt2 z hz
      exact⟨ls,keep (AF _ _ h1),h2⟩
     ·rw[Jg.mp hz]
      refine⟨as.map (·.2.2),keep n6.at,by rw[Ja];exact al,fun r=>⟨fun h =>?_,fun⟨q,hq,h⟩=>?_⟩⟩
      ·refine ae.el (J1.mp h) _ ?_
       rintro y hy rfl
       refine ae.el (ha y hy) _ ?_
       rintro _ h1 h2
       exact⟨_,h1,h2⟩
      ·refine ae.el (hcv q hq r h) _ ?_
       rintro y hy _ e
       exact J1.mpr ⟨y,hy,e⟩
  ·have e:i=ts.length:=by omega
   subst e
   rw[Jz] at ez
   exact .inl ⟨⟨_,aE.of (s2 _ _ eU),by rw[Ja];exact Jd _⟩,qn _ _ ⟨D,zs,rfl,s2,hD,hD2,ez,lt2⟩⟩
 intro v H2
 refine ae.go ?_
 rintro D zs rfl s2 hD0 hD2 ez lt2
 refine gn ?_
 refine fun d H3 n3=>gn ?_
 have L6:=s2.trans n3.same
 have yn:H d=none:=by
  cases e:H d with
  | none=>rfl
  | some o=>have:=n3.nn;rw[s2 _ _ (s1 _ _ e)] at this;cases this
 have dD:D≠d:=aj hD2 n3.nn
 refine⟨_,rfl,p1,_,rfl,.inl (aE.of (L6 _ _ eU)),fun fp0 H4 n4=>gn ?_⟩
 have Mr:=L6.trans n4.same
 rw[show(List.set _ _ _:L2.St)=[some (.ref l),some (.ref p1),some (.ref D),some (.ref d),some (.ref fp0)] from rfl]
 have JC:∀{r:Str},r∈ts->∃a,az (zs.map A6) (.inr r)=some (.ref a)/\(r,a)∈zs:=fun{r} hr=>by
  rw[<-ez] at hr
  refine ae.el (J1.mp hr) _ ?_
  rintro z hz rfl
  refine⟨z.2,wV ?_ (J1.mpr ⟨z,hz,rfl⟩),hz⟩
  have:(zs.map A6).map (·.1)=(zs.map (·.1)).map Sum.inr:=by rw[Ym,Ym];rfl
  rw[this,ez]
  exact U3.mpr (List.pairwise_map.mpr ((U3.mp nd).imp fun h e=>h (Sum.inr.inj e)))
 dsimp only
 let J:Nat->L2.St->Hp->Prop:=fun m σ H'=>AB fun(lp fp:Addr) (left fs E:List Str) =>σ=[some (.ref l),some (.ref lp),some (.ref D),some (.ref d),some (.ref fp)]/\m=2*left.length+(if fs=[] then 0 else 1)/\aw H H'/\H' lp=some (.lst (left.map V.str))/\H' fp=some (.lst (fs.map V.str))/\fs.length<=200/\left.length<=200/\H' d=some (.dK (E.map dA))/\H' D=some (.dK (zs.map A6))/\iC B H' zs/\E.Nodup/\kF B E/\(∀r∈E,fg B r)/\(∀r∈left,fg B r/\r∉E)/\(∀r,fg B r->r∈left∨r∈E)/\(fs=[]->∀r∈left,∃q∈B,∃r',Bh q r r'/\r'∉E)
 refine cb (t:=ig _ _) (fun σ H'=>fR fun(lp fp:Addr) (E:List Str) =>σ=[some (.ref l),some (.ref lp),some (.ref D),some (.ref d),some (.ref fp)]/\aw H H'/\H' d=some (.dK (E.map dA))/\E.Nodup/\kF B E/\(∀r∈E,fg B r)/\∀r,fg B r->r∉E->∃q∈B,∃r',Bh q r r'/\r'∉E) (fun Nx nx =>?_) ?_
 ·refine iG J ⟨_,p1,fp0,ts,ts,[],rfl,rfl,s1.trans Mr,Mr _ _ eU,n4.at,tl,tl,n4.same _ _ n3.at,n4.same _ _ (n3.same _ _ hD2),(lt2.same n3.same).same n4.same,List.nodup_nil,(fun E1 r E2 e=>by cases E1<;>cases e),(fun r h=>nomatch h),fun r h=>⟨(mem r).mp h,(fun h=>nomatch h)⟩,fun r h =>.inl ((mem r).mpr h),fun h r hr=>by rw[h] at hr;cases hr⟩ ?_
  intro m σ H5
  refine ae.go ?_
  rintro lp fp left fs E rfl rfl s5 hlp hfp fl ll ya Df lt5 nd5 ord e1 e2 e3 e4
  have Np:D≠d:=dD
  refine⟨_,rfl, !(fs.map V.str).isEmpty,.inl ⟨_,aE.of hfp,rfl⟩,?_⟩
  by_cases hfs:fs=[]
  ·rw[hfs]
   exact bA (nx _ _ ⟨lp,fp,E,rfl,s5,ya,nd5,ord,e1,fun r hr hn=>e4 hfs r ((e3 r hr).resolve_right hn)⟩)
  ·have eT:(!(fs.map V.str).isEmpty)=true:=by cases fs with|nil=>exact absurd rfl hfs|cons _ _=>rfl
   rw[eT,if_neg hfs]
   refine e7 ⟨fun σ' H'=>∃m',m'<2*left.length+1/\J m' σ' H',fun _ _ h=>h,?_⟩
   have OX:∀{H':Hp} {r:Str},H' d=some (.dK (E.map dA))->dR H' d (.str r) (az (E.map dA) (.inr r)):=fun h =>.inl ⟨_,.inr _,.inl h,rfl,rfl⟩
   refine cj (te:=dU _ _ _ _ _ _) (fun v H'=>ck fun(AZ:Addr) (mP:List Str)=>v = .ref AZ/\aw H5 H'/\H5 AZ=none/\H' AZ=some (.lst (mP.map V.str))/\mP.length<=left.length/\∀r,r∈mP↔r∈left/\∀q∈B,∀r',Bh q r r'->r'∈E) (fun Qn qn =>?_) ?_
   ·refine⟨_,rfl,lp,rfl,⟨_,aE.of hlp⟩,?_⟩
    refine cX (N:=left.length) (fun i ys H'=>∃us:List Str,aw H5 H'/\ys=us.map V.str/\us.length<=i/\∀r,r∈us↔r∈left.take i/\∀q∈B,∀r',Bh q r r'->r'∈E) ⟨[],aw.refl _,rfl,Jd _,fun r=>⟨(fun h=>nomatch h),fun h=>nomatch h.1⟩⟩ ?_ ?_
    ·intro i ys H6 Ny hi hz_ ny
     refine ae.el hz_ _ ?_
     clear hz_
     rintro us s6 rfl ul um
     refine⟨⟨_,_,aE.of (s6 _ _ hlp),fW hi⟩,small (by rw[Ja];omega),?_⟩
     rintro y H7 ⟨rfl,hy⟩
     have e:=hy _ (aE.of (s6 _ _ hlp))
     rw[fW hi] at e;cases e
     have yJ:=(e2 _ (Jt hi)).1
     have cC:=aH hi
     generalize left[i]=x at yJ cC
     refine ae.el (JC ((mem x).mpr yJ)) _ ?_
     rintro a va hza
     refine ae.el ((lt5.same s6) _ hza) _ ?_
     rintro ls h1 h2 h3
     refine gn ⟨_,rfl,_,rfl,D,.ref a,rfl,.inl ⟨_,.inr x,.inl (s6 _ _ Df),rfl,va.symm⟩,a,rfl,⟨_,aE.of h1⟩,?_⟩
     refine bF (N:=ls.length) (fun j ys H'=>H'=H7/\ys=((ls.take j).map fun r=>(az (E.map dA) (.inr r)).isSome).map V.bl) ⟨rfl,rfl⟩ ?_ ?_
     ·rintro j ys H8 Nz hj ⟨rfl,rfl⟩ nz
      refine⟨⟨_,_,aE.of h1,fW hj⟩,small (by rw[Ja,Ja,Jr];omega),?_⟩
      rintro y H9 ⟨rfl,hy⟩
      have e:=hy _ (aE.of h1)
      rw[fW hj] at e;cases e
      refine gn ⟨_,rfl,_,rfl,d,az (E.map dA) (.inr ls[j]),rfl,OX (s6 _ _ ya),nz _ _ ⟨rfl,?_⟩⟩
      rw[aH hj,Jh,Jh];rfl
     ·rintro ys H8 ⟨rfl,rfl⟩
      refine⟨⟨_,aE.of h1,by rw[Ja];exact Jd _⟩,fun p9 qq =>?_⟩
      rw[Jz]
      have n9:dz H8 p9 (.lst ((ls.map fun r=>(az (E.map dA) (.inr r)).isSome).map V.bl)) (upd H8 p9 (.lst ((ls.map fun r=>(az (E.map dA) (.inr r)).isSome).map V.bl))):=⟨qq,rfl⟩
      generalize upd H8 p9 (.lst ((ls.map fun r=>(az (E.map dA) (.inr r)).isSome).map V.bl))=H9 at n9 ⊢
      refine⟨p9,_,rfl,aE.of n9.at,_,rfl,?_⟩
      have xS:(ls.map fun r=>(az (E.map dA) (.inr r)).isSome).all id=true ↔ ∀q∈B,∀r',Bh q x r'->r'∈E:=by
       rw[List.all_map,Y8]
       exact⟨fun h q hq r' hb=>fF.mp (h r' ((h3 r').mpr ⟨q,hq,hb⟩)),fun h r' lF=>by
        refine ae.el ((h3 r').mp lF) _ ?_
        rintro q hq hb
        exact fF.mpr (h q hq r' hb)⟩
      have Mj:∀{r:Str},(r∈left.take (i+1)/\∀q∈B,∀r',Bh q r r'->r'∈E)↔(r∈us∨(r=x/\∀q∈B,∀r',Bh q r r'->r'∈E)):=fun{r}=>by
       rw[cC,Ji,Jg,um]
       exact⟨fun⟨h,g⟩=>h.elim (fun h =>.inl ⟨h,g⟩) fun h =>.inr ⟨h,g⟩,fun h=>h.elim (fun h=>⟨.inl h.1,h.2⟩) fun h=>⟨.inr h.1,h.2⟩⟩
      refine ee (fun c=>⟨_,rfl,ny _ _ ⟨us++[x],s6.trans n9.same,by rw[Jh];rfl,by rw[Jc];exact Wh ul,fun r =>?_⟩⟩) (fun c=>ny _ _ ⟨us,s6.trans n9.same,rfl,by omega,fun r =>?_⟩)
      ·rw[Mj,Ji,Jg]
       exact or_congr Iff.rfl ⟨fun h=>⟨h,h▸xS.mp c⟩,fun h=>h.1⟩
      ·rw[Mj]
       exact⟨.inl,fun h=>h.elim id fun h=>absurd (xS.mpr (h.1▸h.2)) c⟩
    ·intro ys H6
     refine ae.go ?_
     rintro us s6 rfl ul um
     rw[Jz] at um
     refine⟨⟨_,aE.of (s6 _ _ hlp),by rw[Ja];exact Jd _⟩,fun p7 H7 n7=>qn _ _ ⟨p7,us,rfl,s6.trans n7.same,?_,n7.at,ul,um⟩⟩
     cases e:H5 p7 with
     | none=>rfl
     | some o=>have:=n7.nn;rw[s6 _ _ e] at this;cases this
   intro v H6
   refine ae.go ?_
   rintro AZ mP rfl s6 hfp0 hfp' fl' fm'
   refine gn ?_
   have Aq:=s6 _ _ ya
   have NJ:AZ≠d:=fun z=>by rw[z,Aq] at hfp';cases hfp'
   refine⟨_,rfl,.inr (.inr (.inl ⟨rfl,.inl ⟨_,Aq⟩⟩)),?_⟩
   refine⟨_,rfl,AZ,rfl,⟨_,aE.of hfp'⟩,fun D2 hD2' =>?_⟩
   have Od:d≠D2:=fun z=>by rw[z,hD2'] at Aq;cases Aq
   have Nw:H5 D2=none:=by
    cases e:H5 D2 with
    | none=>rfl
    | some o=>rw[s6 _ _ e] at hD2';cases hD2'
   refine⟨fun i m H'=>∃us:List Str,m=mP.length-i/\i<=mP.length/\aw H6 H'/\H' D2=some (.dK (us.map dA))/\us.length<=i/\∀r,r∈us↔r∈mP.take i,⟨_,[],rfl,Uq _,bS hD2' _,aJ,Jd _,fun r=>⟨(fun h=>nomatch h),fun h=>nomatch h⟩⟩,?_⟩
   intro i m H7
   refine ae.go ?_
   rintro us rfl hi s7 GR ul um
   by_cases cc:i<mP.length
   ·refine .inr ⟨⟨_,_,aE.of (s7 _ _ hfp'),fW cc⟩,?_⟩
    rintro y H8 ⟨rfl,hy⟩
    have e:=hy _ (aE.of (s7 _ _ hfp'))
    rw[fW cc] at e;cases e
    refine gn ?_
    dsimp only[kN]
    rw[if_pos rfl]
    have cC:=aH cc
    generalize mP[i]=x at cC
    refine⟨_,rfl,us.map dA,.inr x,GR,rfl,small (by rw[Ja];omega),mP.length-(i+1),by omega,_,rfl,cc,fun b o e =>?_,by rw[mT];exact aJ,?_,fun r =>?_⟩
    ·rw[aq (aj e hD2')];exact s7 b o e
    ·have:=pz (ts:=us) (r:=x);omega
    ·rw[kW,cC,Ji,Jg,um]
   have ei:i=mP.length:=by omega
   subst ei
   rw[Jz] at um
   refine .inl ⟨⟨_,aE.of (s7 _ _ hfp'),by rw[Ja];exact Jd _⟩,?_⟩
   have yq:=s7 _ _ Aq
   have El:E.length<=200:=Js (cF nd5 fun x hx=>(mem x).mpr (e1 x hx)) tl
   refine⟨d,D2,_,_,rfl,rfl,Od,yq,GR,by rw[Ja,Ja];exact sizeOk (by omega),?_⟩
   refine ae.el (mN us E nd5) _ ?_
   rintro N h1 h2 hN h3
   have EJ:kF B (E++N):=ord.more fun r hr=>((fm' r).mp (Wu (i:=mP.length) (by rw[Jz];exact(um r).mp (hN r hr)))).2
   rw[h1]
   generalize E++N=E' at h1 h2 h3 EJ
   have c8:lj H7 d (.dK (E'.map dA)) (upd H7 d (.dK (E'.map dA))):=⟨rfl⟩
   generalize upd H7 d (.dK (E'.map dA))=H8 at c8
   have He:∀x,x∈E'↔x∈E∨x∈mP:=fun x=>by rw[h3,um]
   have IG:=s6.trans s7
   have keep:∀{a:Addr} {o:HO},a≠d->H5 a=some o->H8 a=some o:=fun ne e=>by rw[c8.ne ne];exact IG _ _ e
   have Px:lp≠d:=fun z=>by rw[z,ya] at hlp;cases hlp
   have m6:=keep Px hlp
   have Nf:=keep Np Df
   have OK:aw H H8:=fun b o e=>by rw[c8.ne (aj e yn)];exact IG _ _ (s5 b o e)
   have NV:iC B H8 zs:=(lt5.same IG).off yq (.inr ⟨_,c8⟩)
   have HE:H8 AZ=some (.lst (mP.map V.str)):=by rw[c8.ne NJ];exact s7 _ _ hfp'
   dsimp only
   refine Cq (te:=dU _ _ _ _ _ _) (fun v H'=>∃lp',v = .ref lp'/\dz H8 lp' (.lst ((left.filter fun r => !(az (E'.map dA) (.inr r)).isSome).map V.str)) H') (fun Qn qn =>?_) ?_
   ·refine⟨_,rfl,lp,rfl,⟨_,aE.of m6⟩,?_⟩
    refine cX (N:=left.length) (fun i ys H'=>H'=H8/\ys=((left.take i).filter fun r => !(az (E'.map dA) (.inr r)).isSome).map V.str) ⟨rfl,rfl⟩ ?_ ?_
    ·rintro i ys H9 Ny iB ⟨rfl,rfl⟩ ny
     refine⟨⟨_,_,aE.of m6,fW iB⟩,?_,?_⟩
     ·rw[Ja]
      have h1:=U5 (fun r => !(az (E'.map dA) (.inr r)).isSome) (left.take i)
      rw[Jr] at h1
      exact small (by omega)
     rintro y H10 ⟨rfl,hy⟩
     have e:=hy _ (aE.of m6)
     rw[fW iB] at e;cases e
     have cC:=aH iB
     generalize left[i]=x at cC
     cases hv:az (E'.map dA) (.inr x) with
     | none=>
      refine gn ⟨_,rfl,_,rfl,d,none,rfl,.inl ⟨_,.inr x,.inl c8.at,rfl,hv.symm⟩,_,rfl,e7 ⟨_,rfl,ny _ _ ⟨rfl,?_⟩⟩⟩
      rw[cC,Yp,Uw,hv,if_pos (by rfl),Jh];rfl
     | some v=>
      refine gn ⟨_,rfl,_,rfl,d,some v,rfl,.inl ⟨_,.inr x,.inl c8.at,rfl,hv.symm⟩,_,rfl,bA (ny _ _ ⟨rfl,?_⟩)⟩
      rw[cC,Yp,Uw,hv,if_neg (fun z=>nomatch z),Yq,Uh]
    ·rintro ys H9 ⟨rfl,rfl⟩
     refine⟨⟨_,aE.of m6,by rw[Ja];exact Jd _⟩,fun p H' n=>qn _ _ ⟨p,rfl,?_⟩⟩
     rw[Jz] at n
     exact n
   intro v H9
   refine ae.go ?_
   rintro lp' rfl n9
   refine gn ?_
   have qa:∀r,r∈left.filter (fun r => !(az (E'.map dA) (.inr r)).isSome)↔r∈left/\r∉E':=fun r=>by
    rw[Yv]
    refine and_congr Iff.rfl ⟨fun h z =>?_,fun h =>?_⟩
    ·rw[fF.mpr z] at h;cases h
    ·cases hs:(az (E'.map dA) (.inr r)).isSome with
     | false=>rfl
     | true=>exact absurd (fF.mp hs) h
   have P7:=U5 (fun r => !(az (E'.map dA) (.inr r)).isSome) left
   refine⟨2*(left.filter fun r => !(az (E'.map dA) (.inr r)).isSome).length+(if mP=[] then 0 else 1),?_,lp',AZ,_,mP,E',rfl,rfl,OK.trans n9.same,n9.at,n9.same _ _ HE,by omega,by omega,n9.same _ _ c8.at,n9.same _ _ Nf,NV.same n9.same,h2,EJ,fun r hr =>?_,fun r hr =>?_,fun r hr =>?_,fun hE r hr =>?_⟩
   ·by_cases hf:mP=[]
    ·rw[if_pos hf];omega
    ·rw[if_neg hf]
     obtain⟨x,hx⟩:=List.exists_mem_of_ne_nil _ hf
     have:(left.filter fun r => !(az (E'.map dA) (.inr r)).isSome).length<left.length:=by
      refine List.length_filter_lt_length_iff_exists.mpr ⟨x,((fm' x).mp hx).1,?_⟩
      rw[fF.mpr ((He x).mpr (.inr hx))];decide
     omega
   ·rcases(He r).mp hr with h|h
    ·exact e1 r h
    ·exact(e2 r ((fm' r).mp h).1).1
   ·obtain⟨a1,a2⟩:=(qa r).mp hr
    exact⟨(e2 r a1).1,a2⟩
   ·rcases e3 r hr with h|h
    ·by_cases z:r∈E'
     ·exact .inr z
     ·exact .inl ((qa r).mpr ⟨h,z⟩)
    ·exact .inr ((He r).mpr (.inl h))
   ·obtain⟨a1,a2⟩:=(qa r).mp hr
    have og:¬ ∀q∈B,∀r',Bh q r r'->r'∈E:=fun h=>by
     have:=(fm' r).mpr ⟨a1,h⟩
     rw[hE] at this;cases this
    refine Classical.byContradiction fun z=>og fun q hq r' hb =>?_
    refine Classical.byContradiction fun hn=>z ⟨q,hq,r',hb,fun h =>?_⟩
    rcases(He r').mp h with h|h
    ·exact hn h
    ·rw[hE] at h;cases h
 intro σ H5
 refine ae.go ?_
 rintro lp fp E rfl s5 ya nd5 ord e1 e2
 exact⟨_,rfl,q d E H5 s5 yn ya nd5 ord e1 e2⟩
end
def tu:Sp:=fun vs H Q _=>fR fun(b c:Addr) (t:Int)=>vs=[.ref b]/\Bx H b c t/\0<=t/\t<900000 /\
 ∀(m o:Int) (tp:Addr) (H':Hp) (t':Int),1<=m->m<=12->1<=o->o<=12->Step b c H H' t t' 3->H' tp=some (.tup [.int m,.int o])->Q (.ref tp) H'
def tw (K:Jb):Sp:=fun vs H Q _=>fR fun(b c:Addr) (t:Int)=>vs=[.ref b]/\Bx H b c t/\0<=t/\t<800000 /\
 ∀(bk:List (Str×Str)) (v:V) (H':Hp) (t':Int),bT bk->wR K (kZ H' b c) bk v->Step b c H H' t t' 400->Q v H'
theorem pV (a:Array Nat):∀(k:Nat) (acc:Array Nat),((Jq k a).foldl (· ++ ·) acc).toList=acc.toList++(Jq k a.toList).flatten
 | 0,acc=>by simp
 | k+1,acc=>by
  rw[Yj,List.foldl_cons,pV a k,Yj]
  simp
theorem Ea {x:Str}(hx:1<=x.length):sg (Txt.mul x 8)=(Jq 8 (sg x)).flatten:=by
 unfold Txt.mul
 rw[if_neg (by decide),if_neg (by intro h;rcases Bool.or_eq_true_iff.mp h with h|h;exact absurd h (by decide);have:=eq_of_beq h;omega)]
 show((Jq 8 x.cps).foldl (· ++ ·) #[]).toList=_
 rw[pV];simp
theorem pR {x:Str}(hx:1<=x.length):(Txt.mul x 8).length=8*x.length:=by
 rw[str_len,str_len]
 show(sg (Txt.mul x 8)).length=8*(sg x).length
 rw[Ea hx,List.length_flatten,List.map_replicate,List.sum_replicate_nat]
theorem Lr {x:Str}(hx:bh 12 x){o:Int}(o0:1<=o)(o1:o<=12):bh 12 (Txt.slice (Txt.mul x 8) none (some o)):=by
 have hl:=pR hx.pos
 have hp:=hx.pos
 obtain⟨o',o0',ol,oe,e⟩:∃o':Int,1<=o'/\o'<=12/\o'<=(Txt.mul x 8).length/\Txt.slice (Txt.mul x 8) none (some o)=Txt.slice (Txt.mul x 8) none (some o'):=by
  by_cases h:o<=(Txt.mul x 8).length
  ·exact⟨o,o0,o1,h,rfl⟩
  ·refine⟨((Txt.mul x 8).length:Nat),by omega,by omega,Yo _,?_⟩
   unfold Txt.slice
   have:PySem.Builtin.Str.strSliceIndices none (some o) 1 (Txt.mul x 8).length=PySem.Builtin.Str.strSliceIndices none (some (((Txt.mul x 8).length:Nat):Int)) 1 (Txt.mul x 8).length:=by
    unfold PySem.Builtin.Str.strSliceIndices
    dsimp only
    congr 1
    all_goals omega
   rw[this]
 rw[e]
 have hs:=DA (x:=Txt.mul x 8) (j:=o') (by omega) oe
 have hn:(Txt.slice (Txt.mul x 8) none (some o')).length=o'.toNat:=by
  rw[str_len]
  show(sg _).length=_
  rw[hs,Jr]
  have:(sg (Txt.mul x 8)).length=(Txt.mul x 8).length:=(str_len _).symm
  omega
 refine⟨fun ch hc =>?_,by omega,by omega⟩
 have hc:ch∈sg (Txt.slice (Txt.mul x 8) none (some o')):=hc
 rw[hs,Ea hx.pos] at hc
 have hc:=Wu hc
 obtain⟨l,tZ,hm⟩:=List.mem_flatten.mp hc
 rw[(List.mem_replicate.mp tZ).2] at hm
 exact hx.bin ch hm
theorem nD {α:Type}[DecidableEq α]{f:Nat -> α}{k: α}:∀{i:Nat},k∈bN f i->∃j,j<i/\f j=k
 | 0,h=>by simp[bN] at h
 | i+1,h=>by
  unfold bN oneMore at h
  by_cases q:f i∈bN f i
  ·rw[if_pos q] at h
   obtain⟨j,hj,e⟩:=nD h
   exact⟨j,by omega,e⟩
  ·rw[if_neg q] at h
   rcases Ji.mp h with h|h
   ·obtain⟨j,hj,e⟩:=nD h
    exact⟨j,by omega,e⟩
   ·exact⟨i,by omega,(Jg.mp h).symm⟩
theorem qT {α:Type}[DecidableEq α]{f:Nat -> α}:∀{i:Nat},(bN f i).Nodup
 | 0=>List.nodup_nil
 | i+1=>by
  unfold bN oneMore
  split
  ·exact qT
  ·rename_i q
   refine List.nodup_append.mpr ⟨qT,Yd.mpr ⟨by simp,List.nodup_nil⟩,fun a ha b hb e=>q ?_⟩
   rw[<-Jg.mp hb,<-e];exact ha
theorem xA {zs:List Str}{x:Str}(h:x∈ow zs):x∈zs:=by
 obtain⟨j,hj,e⟩:=nD h
 rw[<-e,Wj,Jf hj]
 exact Jt hj
theorem ones_mul (k:Nat):sg (Txt.mul (Str.ofString "1") (k:Int))=Jq k 49:=yV 49 k
theorem qF (k:Nat):(Txt.mul (Str.ofString "1") (k:Int)).length=k:=by
 rw[str_len]
 show(sg _).length=k
 rw[ones_mul,Uy]
theorem xj (k:Nat):jJ (Txt.mul (Str.ofString "1") (k:Int)):=fun ch hc=>by
 have hc:ch∈sg (Txt.mul (Str.ofString "1") (k:Int)):=hc
 rw[ones_mul] at hc
 exact .inr (List.mem_replicate.mp hc).2
theorem yS {k:Nat}(hk:k<12):bh 12 (Txt.mul (Str.ofString "1") (k:Int)++Str.ofString "0"):=by
 have e:sg (Txt.mul (Str.ofString "1") (k:Int)++Str.ofString "0")=Jq k 49++[48]:=by rw[jv,ones_mul];rfl
 have l:(Txt.mul (Str.ofString "1") (k:Int)++Str.ofString "0").length=k+1:=by
  rw[str_len]
  show(sg _).length=_
  rw[e,Jc,Uy];rfl
 refine⟨fun ch hc =>?_,by omega,by omega⟩
 have hc:ch∈sg (Txt.mul (Str.ofString "1") (k:Int)++Str.ofString "0"):=hc
 rw[e] at hc
 rcases Ji.mp hc with h|h
 ·exact .inr (List.mem_replicate.mp h).2
 ·exact .inl (Jg.mp h)
theorem vG {H:Hp}{b c:Addr}{t:Int}(bx:Bx H b c t):∃g:Bool,(∃kvs,H b=some (.dK kvs)/\(az kvs (.inr "great")).isSome=g)/\(g=false->iW H b (.str "great") (.int 1) (upd H b (.dK [(.inr "cells",.ref c),(.inr "turn",.int t),(.inr "great",.int 1)]))/\Step b c H (upd H b (.dK [(.inr "cells",.ref c),(.inr "turn",.int t),(.inr "great",.int 1)])) t t 0):=by
 obtain⟨ns,ex,bx⟩:=bx
 rcases bx.xl with rfl|rfl
 ·refine⟨false,⟨_,bx.d,rfl⟩,fun _=>⟨iW.k (k:=Sum.inr "great") bx.d (by show 2<sizeLine;decide),Yo _,by omega,⟨ns,_,aJ,.inr rfl,by rw[aq (Ne.symm bx.bc)];exact bx.l,bx.ne,bx.le⟩,by rw[mK];exact aw.refl _⟩⟩
 ·exact⟨true,⟨_,bx.d,rfl⟩,(fun z=>nomatch z)⟩
section
variable {P:Program}{w:World}{K:Jb}{mg:Str->Option Value}{base:Heap}{f:Addr}{fd:FuncData}
theorem iV:aO ["_law_state", "_law_way"] ["_law_state"] (aB (top gI)):=⟨rfl,rfl,rfl,by decide +kernel,rfl,by decide +kernel,by decide +kernel⟩
theorem Bf (F:dh K "_law_sizes" "_law_sizes" (top gI) f fd)(T:Nm mg)(aQ:Fn P w K mg base 1 "_law_take" ["_law_state", "_law_many"] uD):bM P w K mg base gU 2 f fd ["_law_state"] tu:=by
 refine F.ok iV (fun vs H Q E h =>?_) (fun dG A outer s H vs Q E hr h =>?_)
 ·obtain⟨b,c,t,rfl,_⟩:=h
  rfl
 unfold tu at h
 refine ae.el h _ ?_
 clear h
 rintro b c t rfl bx t0 t1 q
 have hu:=eY hr
 have fO:=hr.units
 refine⟨_,(ah (aI (i:=1) iV.nd rfl (Or.inl rfl) (aY (aQ.mono (by decide)) hr rfl (aa (pv 0) (aa ao ag))))
  (ah (bV (PW.pt (lh (aG (yc K fO) (pv 1) ao (aM _)) (iI (fX (cI hu bb (pv 0)))))) (ah (jS hu (pv 0) bb ao rfl)
  (ak (aK (fu (aa (aU dN ao (aY (aQ.mono (by decide)) hr rfl (aa (pv 0) (aa ao ag)))) (aa (aU dN ao (aY (aQ.mono (by decide)) hr rfl (aa (pv 0) (aa ao ag)))) ag)))))) aW)
  (ah (bV (aG (OQ K) (pv 1) (fu (aa ao (aa ao ag))) (by with_unfolding_all rfl)) (ak (aK (fu (aa (aU dN ao (aY (aQ.mono (by decide)) hr rfl (aa (pv 0) (aa ao ag)))) (aa (aU dN ao (aY (aQ.mono (by decide)) hr rfl (aa (pv 0) (aa ao ag)))) ag))))) aW)
  (ak (aK (fu (aa (aU dN ao (aY (aQ.mono (by decide)) hr rfl (aa (pv 0) (aa ao ag)))) (aa (aU dN ao (aY (aQ.mono (by decide)) hr rfl (aa (pv 0) (aa ao ag)))) ag)))))))),?_⟩
 refine⟨_,rfl,b,c,t,16,rfl,bx,by omega,by omega,by decide,by decide,fun way H1 w0 w1 fG=>gn ?_⟩
 dsimp only
 refine cb (t:=uM _ _ _) (fun σ H' =>σ=[some (.ref b),some (.int way)]/\H'=H1) (fun Nx nx =>?_) ?_
 ·refine⟨_,rfl,.inl ⟨rfl,_,rfl,ee (fun _ =>?_) (fun _=>bA (nx _ _ ⟨rfl,rfl⟩))⟩⟩
  obtain⟨g,⟨kvs,hk,hg⟩,put⟩:=vG fG.bx
  refine⟨_,rfl,b,_,rfl,dR.k (k:=Sum.inr "great") hk,_,rfl,?_⟩
  rw[hg]
  cases g with
  | true=>exact bA (nx _ _ ⟨rfl,rfl⟩)
  | false=>
   refine ae.el (put rfl) _ ?_
   rintro hput bG
   have bG:=fG.trans bG
   refine e7 ⟨_,rfl,b,_,rfl,hput,?_⟩
   generalize upd H1 b _=H2 at bG
   refine⟨_,rfl,b,c,_,_,rfl,bG.bx,by omega,by omega,by decide,by decide,fun m HA m0 m1 stA =>.inl ⟨_,_,rfl,rfl,?_⟩⟩
   refine⟨_,rfl,b,c,_,_,rfl,stA.bx,by omega,by omega,by decide,by decide,fun o HB o0 o1 stB =>.inl ⟨_,_,rfl,rfl,by show 2<=sizeLine;decide,fun tp HC nC =>?_⟩⟩
   exact q _ _ tp HC _ (by omega) (by omega) (by omega) (by omega) (((bG.trans stA).trans stB).d5 nC) nC.at
 rintro σ H2 ⟨rfl,rfl⟩
 refine⟨_,rfl,by show 2<=sizeLine;decide,fun p H3 n3=>⟨p,_,rfl,.inr (d9.of n3.at),rfl,rfl,_,rfl,ee (fun _ =>?_) (fun _ =>?_)⟩⟩
 ·have cR:=fG.d5 n3
  refine⟨_,rfl,b,c,_,_,rfl,cR.bx,by omega,by omega,by decide,by decide,fun m HA m0 m1 stA =>.inl ⟨_,_,rfl,rfl,?_⟩⟩
  refine⟨_,rfl,b,c,_,_,rfl,stA.bx,by omega,by omega,by decide,by decide,fun o HB o0 o1 stB =>.inl ⟨_,_,rfl,rfl,by show 2<=sizeLine;decide,fun tp HC nC =>?_⟩⟩
  exact q _ _ tp HC _ (by omega) (by omega) (by omega) (by omega) (((cR.trans stA).trans stB).d5 nC) nC.at
 ·have cR:=fG.d5 n3
  refine⟨_,rfl,b,c,_,_,rfl,cR.bx,by omega,by omega,by decide,by decide,fun m HA m0 m1 stA =>.inl ⟨_,_,rfl,rfl,?_⟩⟩
  refine⟨_,rfl,b,c,_,_,rfl,stA.bx,by omega,by omega,by decide,by decide,fun o HB o0 o1 stB =>.inl ⟨_,_,rfl,rfl,by show 2<=sizeLine;decide,fun tp HC nC =>?_⟩⟩
  exact q _ _ tp HC _ (by omega) (by omega) (by omega) (by omega) (((cR.trans stA).trans stB).d5 nC) nC.at
theorem cz:aO ["_law_state", "_law_way", "_law_many", "_law_most", "_law_codes"] ["_law_state"] (aB (top ij)):=⟨rfl,rfl,rfl,by decide +kernel,rfl,by decide +kernel,by decide +kernel⟩
theorem Ad (F:dh K "_law_book" "_law_book" (top ij) f fd)(T:Nm mg)(eZ:mg "sorted" = none)(vK:mg "set" = none)(aQ:Fn P w K mg base 1 "_law_take" ["_law_state", "_law_many"] uD)(pI:Fn P w K mg base 2 "_law_sizes" ["_law_state"] tu)(rQ:Fn P w K mg base 2 "_law_free" ["_law_state", "_law_many", "_law_most"] zx)(oY:Fn P w K mg base 2 "_law_names" ["_law_state", "_law_many"] zc):bM P w K mg base gU 3 f fd ["_law_state"] (tw K):=by
 refine F.ok cz (fun vs H Q E h =>?_) (fun dG A outer s H vs Q E hr h =>?_)
 ·obtain⟨b,c,t,rfl,_⟩:=h
  rfl
 unfold tw at h
 refine ae.el h _ ?_
 clear h
 rintro b c t rfl bx t0 t1 q
 have fO:=hr.units
 have small:∀{n:Nat},n<=1000->n<sizeLine:=fun h=>Jy h (by decide)
 refine⟨_,(ah (aI (i:=1) cz.nd rfl (Or.inl rfl) (aY (aQ.mono (by decide)) hr rfl (aa (pv 0) (aa ao ag))))
  (ah (fq (aY (pI.mono (by decide)) hr rfl (aa (pv 0) ag)) (tupK K 2 rfl (ar (ai (i:=2) cz.nd rfl (Or.inl rfl)) (ar (ai (i:=3) cz.nd rfl (Or.inr rfl)) bt))))
  (ah (aI (i:=4) cz.nd rfl (Or.inl rfl) (aY (rQ.mono (by decide)) hr rfl (aa (pv 0) (aa (pv 2) (aa (pv 3) ag)))))
  (ah (bV (aG (yc K fO) (pv 1) ao (aM _)) (ak (aI (i:=4) cz.nd rfl (Or.inl rfl) (au (rn rfl) rfl eZ (by rfl) (aa (dJ (uO rfl) rfl vK (by rfl) (aa (bC rfl (aN (Nc:=["_law_code"]) (Fc:=["_law_most"]) (js:=[3])) (fV K (pv 4)) (aA (i:=0) (n:=1) (by decide)) (fun _ _ _ _ _=>(ai (i:=0) (dX ["_law_code", "_law_most"]) rfl (Or.inl rfl))) (fun _ _ _ _ _=>br) (fun _ _ _ _ _=>(cw (yj K) (aU B9 (pv 0) ao) cU (dc (pv 1))))) ag)) ag)))) aW)
  (ah (bV (aG (yc K fO) (pv 1) ao (aM _)) (ak (aI (i:=4) cz.nd rfl (Or.inl rfl) (aU dN (bC rfl (aN (Nc:=["_law_k"]) (Fc:=[]) (js:=[])) (dj rfl T.n_range (aa (pv 2) ag)) (aA (i:=0) (n:=1) (by decide)) (fun _ _ _ _ _=>(ai (i:=0) (dX ["_law_k"]) rfl (Or.inl rfl))) (fun _ _ _ _ _=>br) (fun _ _ _ _ _=>(aU dN (aU B9 bb (pv 0)) bb))) (aU nq (dy (aa (aU B9 bb (pv 2)) ag)) (aU nq (aY (aQ.mono (by decide)) hr rfl (aa (pv 0) (aa ao ag))) (dJ ux rfl T.n_int (by rfl) (aa (iE jE (pv 2) ao (aM _)) ag))))))) aW)
  (ak (aK (kM rfl rfl T.n_list rfl T.n_zip (aa (aY (oY.mono (by decide)) hr rfl (aa (pv 0) (aa (au (dv K) rfl T.n_len (by rfl) (aa (pv 4) ag)) ag))) (aa (pv 4) ag)))))))))),?_⟩
 refine⟨_,rfl,b,c,t,8,rfl,bx,by omega,by omega,by decide,by decide,fun way H1 w0 w1 fG=>gn ?_⟩
 refine⟨_,rfl,b,c,_,rfl,fG.bx,by omega,by omega,fun m o tp H2 t2 m0 m1 o0 o1 bG htp=>⟨tp,_,rfl,d9.of htp,rfl,_,_,rfl,_,_,rfl,rfl,?_⟩⟩
 have bG:=fG.trans bG
 have NA:=bG.ub
 have Mn:=bG.le
 refine⟨_,rfl,_,rfl,_,rfl,b,c,t2,m,o,rfl,bG.bx,by omega,by omega,m0,m1,o0,o1,fun cs l H3 t3 _ le _ cd cR hl gY=>gn ?_⟩
 obtain⟨lb,lc⟩:=bG.bx.bX hl
 have cR:=bG.trans cR
 have EX:∀x∈cs,bh 12 x:=fun x hx=>(cd x hx).mono (by omega)
 dsimp only
 refine cb (t:=uM _ _ _) (fun σ H'=>ck fun(cs:List Str) (l:Addr) =>σ=[some (.ref b),some (.int way),some (.int m),some (.int o),some (.ref l)]/\l≠b/\l≠c/\cs.length<=13/\(∀x∈cs,bh 12 x)/\Step b c H H' t t3 44/\H' l=some (.lst (cs.map V.str))) (fun Nx nx =>?_) ?_
 ·refine⟨_,rfl,.inl ⟨rfl,_,rfl,ee (fun _ =>?_) (fun _=>nx _ _ ⟨cs,l,rfl,lb,lc,by omega,EX,cR,gY⟩)⟩⟩
  have Dv:∀{k:Nat} (hk:k<cs.length),(cs.map V.str)[k]? = some (.str cs[k]):=fun hk=>by rw[Jj,Jf hk];rfl
  refine⟨_,rfl,l,rfl,⟨_,aE.of gY⟩,?_⟩
  refine bF (N:=cs.length) (fun k ys H'=>H'=H3/\ys=((cs.take k).map fun x=>Txt.slice (Txt.mul x 8) none (some o)).map V.str) ⟨rfl,rfl⟩ ?_ ?_
  ·rintro k ys H4 Ny hk ⟨rfl,rfl⟩ ny
   refine⟨⟨_,_,aE.of gY,Dv hk⟩,small (by rw[Ja,Ja,Jr];omega),?_⟩
   rintro x H5 ⟨rfl,hy⟩
   have e:=hy _ (aE.of gY)
   rw[Dv hk] at e;cases e
   have hle:=(EX _ (Jt hk)).le
   have L5:=pR (EX _ (Jt hk)).pos
   refine gn ⟨_,rfl,.inr ⟨_,_,rfl,rfl,gf (by omega) (by decide) (by decide),_,rfl,o,rfl,.inr ⟨_,rfl,U8 (small (by omega)),ny _ _ ⟨rfl,?_⟩⟩⟩⟩
   rw[List.take_succ_eq_append_getElem hk,Jh,Jh];rfl
  rintro ys H4 ⟨rfl,rfl⟩
  refine⟨⟨_,aE.of gY,by rw[Ja];exact Jd _⟩,fun p hp =>?_⟩
  rw[Jz]
  obtain⟨zs,AD⟩:∃zs,zs=cs.map fun x=>Txt.slice (Txt.mul x 8) none (some o):=⟨_,rfl⟩
  rw[<-AD]
  obtain⟨H5,n5⟩:∃H5,dz H4 p (.lst (zs.map V.str)) H5:=⟨_,hp,rfl⟩
  rw[<-n5.eq]
  have zl:zs.length=cs.length:=by rw[AD,Ja]
  have ev:∀x∈zs,bh 12 x:=fun x hx=>by
   rw[AD] at hx
   refine ae.el (J1.mp hx) _ ?_
   rintro y hy rfl
   exact Lr (EX y hy) o0 o1
  have ol:(ow zs).length<=zs.length:=ir _ _
  refine⟨p,zs,rfl,aE.of n5.at,by omega,fun a H6 n6=>⟨a,ow zs,rfl,n6.at,qT,by omega,fun ms l7 H7 pm n7=>gn ?_⟩⟩
  have lA:=(cR.d5 n5).d5 n6
  obtain⟨lb7,lc7⟩:=lA.bx.bX n7.nn
  have ml:=pm.length_eq
  exact nx _ _ ⟨ms,l7,rfl,lb7,lc7,by omega,fun x hx=>ev x (xA (pm.mem_iff.mp hx)),lA.d5 n7,n7.at⟩
 clear le cd EX gY lb lc hl
 intro σ H4
 refine ae.go ?_
 rintro cs l rfl lb lc le cd jF zy
 refine cb (t:=uM _ _ _) (fun σ H'=>fR fun(cs:List Str) (l:Addr) (t':Int) =>σ=[some (.ref b),some (.int way),some (.int m),some (.int o),some (.ref l)]/\l≠b/\l≠c/\cs.length<=13/\(∀x∈cs,bh 12 x)/\Step b c H H' t t' 45/\H' l=some (.lst (cs.map V.str))) (fun Nx nx =>?_) ?_
 ·refine⟨_,rfl,.inl ⟨rfl,_,rfl,ee (fun _ =>?_) (fun _=>nx _ _ ⟨cs,l,t3,rfl,lb,lc,by omega,cd,jF.more (by omega),zy⟩)⟩⟩
  obtain⟨k,rfl⟩:∃k:Nat,m=k:=⟨m.toNat,by omega⟩
  refine⟨_,rfl,_,rfl,by omega,by omega,?_⟩
  refine bF (N:=k) (fun i ys H'=>H'=H4/\ys=((Wf i).map fun(j:Nat)=>Txt.mul (Str.ofString "1") (j:Int)++Str.ofString "0").map V.str) ⟨rfl,rfl⟩ ?_ ?_
  ·rintro i ys H5 Ny hi ⟨rfl,rfl⟩ ny
   refine⟨by show i<((k:Nat):Int).toNat;omega,small (by rw[Ja,Ja,Yt];omega),?_⟩
   rintro x H6 ⟨rfl,rfl⟩
   refine gn ?_
   rw[show(0+(i:Int))=((i:Nat):Int) by omega]
   refine⟨_,rfl,.inr ⟨_,_,rfl,rfl,gf (by show 1<=1000;decide) (by omega) (by omega),.inr (.inl ⟨_,_,rfl,rfl,U8 (small (by rw[qF];show i+1<=1000;omega)),ny _ _ ⟨rfl,?_⟩⟩)⟩⟩
   rw[List.range_succ,Jh,Jh]
   rfl
  rintro ys H5 ⟨rfl,rfl⟩
  refine⟨by show((k:Nat):Int).toNat<=k;omega,fun p hp =>?_⟩
  obtain⟨us,Gg⟩:∃us:List Str,us=(Wf k).map fun(j:Nat)=>Txt.mul (Str.ofString "1") (j:Int)++Str.ofString "0":=⟨_,rfl⟩
  rw[<-Gg]
  have ul:us.length=k:=by rw[Gg,Ja,Yt]
  have uc:∀x∈us,bh 12 x:=fun x hx=>by
   rw[Gg] at hx
   refine ae.el (J1.mp hx) _ ?_
   rintro j hj rfl
   exact yS (by have:=Y9.mp hj;omega)
  obtain⟨H6,n6⟩:∃H6,dz H5 p (.lst (us.map V.str)) H6:=⟨_,hp,rfl⟩
  rw[<-n6.eq]
  refine⟨_,rfl,.inr ⟨_,_,rfl,rfl,gf (by show 1<=1000;decide) (by omega) (by omega),by show 1<=sizeLine;decide,fun p7 H7 n7 =>?_⟩⟩
  have rq:=(jF.d5 n6).d5 n7
  have PY:=rq.ub
  have PZ:=rq.le
  refine⟨_,rfl,b,c,_,2,rfl,rq.bx,by omega,by omega,by decide,by decide,fun r H8 r0 r1 vb =>?_⟩
  obtain⟨pb7,pc7⟩:=(jF.d5 n6).bx.bX n7.nn
  obtain⟨pb,pc⟩:=jF.bx.bX n6.nn
  have Gu:=vb.old n7.at pb7 pc7
  have K2:=vb.old (n7.same _ _ n6.at) pb pc
  have vb:=rq.trans vb
  refine⟨_,rfl,_,_,rfl,rfl,.inr ⟨_,rfl,.inl ⟨_,_,rfl,rfl,.inl ⟨by omega,by omega⟩,?_⟩⟩⟩
  obtain⟨n,hn,hn'⟩:∃n:Int,r*(if decide ((k:Int)<12)=true then 1 else 0)=n/\(n=0∨n=1/\k<12):=by
   refine⟨_,rfl,?_⟩
   by_cases h:(k:Int)<12
   ·rw[if_pos (decide_eq_true h)];omega
   ·rw[if_neg (by rw[decide_eq_false h];decide)];omega
  rw[hn]
  refine .inr ⟨p7,n,_,rfl,rfl,Gu,by omega,by omega,?_,fun p9 H9 n9 =>?_⟩
  ·exact U8 (small (by show 1*n.toNat<=1000;omega))
  have Gv:=vb.d5 n9
  refine .inr (.inr ⟨p,p9,_,_,rfl,rfl,n9.same _ _ K2,n9.at,U8 (small ?_),fun pA HA nA=>gn ?_⟩)
  ·rw[Ja,ul]
   rcases hn' with e|⟨e,_⟩<;>rw[e]<;>simp<;>omega
  obtain⟨pbA,pcA⟩:=Gv.bx.bX nA.nn
  have GJ:=nA.at
  rcases hn' with e|⟨e,hk12⟩
  ·rw[e] at GJ
   exact nx _ _ ⟨us,pA,_,rfl,pbA,pcA,by omega,uc,Gv.d5 nA,by rw[GJ];exact congrArg (fun l=>some (HO.lst l)) (Uh _)⟩
  ·rw[e] at GJ
   refine nx _ _ ⟨us++[Txt.mul (Str.ofString "1") (k:Int)],pA,_,rfl,pbA,pcA,by rw[Jc];show us.length+1<=13;omega,fun x hx =>?_,Gv.d5 nA,by rw[GJ,Jh];rfl⟩
   rcases Ji.mp hx with h|h
   ·exact uc x h
   ·rw[Jg.mp h]
    exact⟨xj k,by rw[qF];omega,by rw[qF];omega⟩
 clear le cd zy lb lc jF
 intro σ H4
 refine ae.go ?_
 rintro cs l t4 rfl lb lc le cd jF zy
 have Qb:=jF.ub
 have Qc:=jF.le
 have hlen:(cs.map V.str).length=cs.length:=Ja _
 refine⟨_,rfl,_,rfl,_,_,rfl,.inl ⟨_,aE.of zy,rfl⟩,b,c,_,_,rfl,jF.bx,by omega,by omega,by omega,by omega,fun xs l5 H5 t5 De nd ln df vc hl55 =>?_⟩
 have Pp:=df.old zy lb lc
 have df:=jF.trans df
 refine⟨_,rfl,l5,l,_,_,rfl,aE.of hl55,aE.of Pp,fun H7 p as sm hp hp7 AH hpairs =>?_⟩
 have JP:xs.length=cs.length:=by omega
 refine q (xs.zip cs) (.ref p) H7 t5 ?_ (xK df.bx hp hp7 JP AH hpairs) ((df.trans (Step.same df.bx sm)).more (by omega))
 have h1:(xs.zip cs).map (·.1)=xs:=List.map_fst_zip (by omega)
 exact⟨by rw[List.length_zip];omega,by rw[h1];exact nd,fun z hz=>cd _ (Wm (a:=z.1) (b:=z.2) hz).2,fun z hz=>(ln _ (Wm (a:=z.1) (b:=z.2) hz).1).1,fun z hz=>(ln _ (Wm (a:=z.1) (b:=z.2) hz).1).2⟩
end
noncomputable abbrev Sg:=List Nat
noncomputable def nx (cs:List Sg)(p:Sg×Sg):List (Sg×Sg):=
 if p.1.head? ≠ p.2.head? ∨ p.1=[] then [] else if p.1.length=1/\p.2.length=1 then [([],[])] else
  (if 1<p.1.length then [p.1.tail] else cs).flatMap fun f=>(if 1<p.2.length then [p.2.tail] else cs).map fun s=>(f,s)
inductive Fi (cs:List Sg):Sg×Sg->Prop
 | fin:Fi cs ([],[])
 | step (p:Sg×Sg) (h1:p.1≠[]) (h2:p.2≠[]) (h:∀q∈nx cs p,Fi cs q):Fi cs p
section
variable {cs:List Sg}{a b:Nat}{x y:Sg}
theorem DG (h:a≠b):nx cs (a::x,b::y)=[]:=by
 unfold nx;rw[if_pos (.inl fun e=>h (by simpa using e))]
theorem BM:nx cs ([a],[a])=[([],[])]:=by
 unfold nx;rw[if_neg (by simp),if_pos (by simp)]
theorem FF (h:y≠[]):nx cs ([a],a::y)=cs.map fun c=>(c,y):=by
 have hl:0<y.length:=U1.mpr h
 unfold nx
 rw[if_neg (by simp),if_neg (by simp[h])]
 dsimp only
 rw[if_neg (show ¬ 1<[a].length by simp),if_pos (show 1<(a::y).length by rw[Jx];omega)]
 show cs.flatMap (fun f=>[(f,y)])=_
 induction cs with
 | nil=>rfl
 | cons c cs ih=>rw[List.flatMap_cons,ih];rfl
theorem Fj (h:x≠[]):nx cs (a::x,[a])=cs.map fun c=>(x,c):=by
 have hl:0<x.length:=U1.mpr h
 unfold nx
 rw[if_neg (by simp),if_neg (by simp[h])]
 dsimp only
 rw[if_pos (show 1<(a::x).length by rw[Jx];omega),if_neg (show ¬ 1<[a].length by simp)]
 simp
theorem sX (h:x≠[])(h':y≠[]):nx cs (a::x,a::y)=[(x,y)]:=by
 have hl:0<x.length:=U1.mpr h
 have tZ:0<y.length:=U1.mpr h'
 unfold nx
 rw[if_neg (by simp),if_neg (by simp[h])]
 dsimp only
 rw[if_pos (show 1<(a::x).length by rw[Jx];omega),if_pos (show 1<(a::y).length by rw[Jx];omega)]
 rfl
theorem Fi.pre (h:x≠[])(h':y≠[])(g:Fi cs (x,y))(u:Sg):Fi cs (u++x,u++y):=by
 induction u with
 | nil=>exact g
 | cons a u ih=>
  refine .step _ (by simp) (by simp) fun q hq =>?_
  rw[List.cons_append,List.cons_append,sX (by simp[h]) (by simp[h']),Jg] at hq
  rw[hq];exact ih
theorem Fi.miss (h:a≠b)(u:Sg):Fi cs (u++a::x,u++b::y):=
 Fi.pre (by simp) (by simp) (.step _ (by simp) (by simp) fun q hq=>by rw[DG h] at hq;cases hq) u
theorem Fi.self (h:x≠[]):Fi cs (x,x):=by
 obtain⟨u,a,rfl⟩:∃u a,x=u++[a]:=⟨_,_,(Wg h).symm⟩
 refine Fi.pre (by simp) (by simp) (.step _ (by simp) (by simp) fun q hq =>?_) u
 rw[BM,Jg] at hq
 rw[hq];exact .fin
theorem Fi.over {r:Sg}(hr:r≠[])(h:∀c∈cs,Fi cs (r,c)){u:Sg}(hu:u≠[]):Fi cs (u++r,u):=by
 obtain⟨u,a,rfl⟩:∃w a,u=w++[a]:=⟨_,_,(Wg hu).symm⟩
 have:=Fi.pre (x:=a::r) (y:=[a]) (by simp) (by simp) (.step _ (by simp) (by simp) fun q hq=>by
  rw[Fj hr] at hq
  obtain⟨c,hc,rfl⟩:=J1.mp hq
  exact h c hc) u
 simpa using this
theorem Fi.Au {r:Sg}(hr:r≠[])(h:∀c∈cs,Fi cs (c,r)){u:Sg}(hu:u≠[]):Fi cs (u,u++r):=by
 obtain⟨u,a,rfl⟩:∃w a,u=w++[a]:=⟨_,_,(Wg hu).symm⟩
 have:=Fi.pre (x:=[a]) (y:=a::r) (by simp) (by simp) (.step _ (by simp) (by simp) fun q hq=>by
  rw[FF hr] at hq
  obtain⟨c,hc,rfl⟩:=J1.mp hq
  exact h c hc) u
 simpa using this
end
def Lt (c x r:Sg):Prop:=r≠[]/\(x=c++r∨c=x++r)
inductive En (cs:List Sg):Sg->Prop
 | mk (x:Sg) (h:∀c∈cs,∀r,Lt c x r->En cs r):En cs x
theorem oC:∀(x c:Sg),x=c∨(∃r,Lt c x r)∨∃u a b x' c',a≠b/\x=u++a::x'/\c=u++b::c'
 | [],[] =>.inl rfl
 | [],b::c =>.inr (.inl ⟨b::c,by simp,.inr rfl⟩)
 | a::x,[] =>.inr (.inl ⟨a::x,by simp,.inl rfl⟩)
 | a::x,b::c=>by
  by_cases h:a=b
  ·subst h
   rcases oC x c with h|⟨r,n,h|h⟩|⟨u,d,e,x',c',ne,h1,h2⟩
   ·exact .inl (by rw[h])
   ·exact .inr (.inl ⟨r,n,.inl (by rw[h];rfl)⟩)
   ·exact .inr (.inl ⟨r,n,.inr (by rw[h];rfl)⟩)
   ·exact .inr (.inr ⟨a::u,d,e,x',c',ne,by rw[h1];rfl,by rw[h2];rfl⟩)
  ·exact .inr (.inr ⟨[],a,b,x,c,h,rfl,rfl⟩)
theorem En.fin {cs:List Sg}(G4:∀c∈cs,c≠[]){x:Sg}(h:En cs x):x≠[]->∀c∈cs,Fi cs (x,c)/\Fi cs (c,x):=by
 induction h with
 | mk x h ih=>
  intro hx c hc
  have My:=G4 c hc
  rcases oC x c with rfl|⟨r,hl⟩|⟨u,a,b,x',c',ne,rfl,rfl⟩
  ·exact⟨Fi.self hx,Fi.self hx⟩
  ·have k:=ih c hc r hl hl.1
   obtain⟨n,e|e⟩:=hl
   ·subst e
    exact⟨Fi.over n (fun c hc=>(k c hc).1) My,Fi.Au n (fun c hc=>(k c hc).2) My⟩
   ·subst e
    exact⟨Fi.Au n (fun c hc=>(k c hc).2) hx,Fi.over n (fun c hc=>(k c hc).1) hx⟩
  ·exact⟨Fi.miss ne u,Fi.miss (Ne.symm ne) u⟩
theorem Fi.ends {cs:List Sg}{p:Sg×Sg}(h:Fi cs p):∀r,(Lt p.2 p.1 r->En cs r):=by
 induction h with
 | fin=>rintro r ⟨n,e|e⟩<;>exact absurd e.symm (by simpa using n)
 | step p h1 h2 h ih=>
  obtain⟨x,y⟩:=p
  dsimp only at h1 h2
  intro r hl
  cases x with
  | nil=>exact absurd rfl h1
  | cons a x=>
   cases y with
   | nil=>exact absurd rfl h2
   | cons b y=>
    obtain⟨n,e⟩:=hl
    have Cj:a=b:=by
     rcases e with e|e
     ·exact(List.cons.inj e).1
     ·exact(List.cons.inj e).1.symm
    subst Cj
    have e:x=y++r∨y=x++r:=e.imp (fun e=>(List.cons.inj e).2) fun e=>(List.cons.inj e).2
    by_cases hx:x=[]
    ·subst hx
     have hy:y=r:=by
      rcases e with e|e
      ·exact absurd (List.append_eq_nil_iff.mp e.symm).2 n
      ·simpa using e
     subst hy
     refine .mk _ fun c hc r' tZ=>ih (c,y) (by rw[FF n];exact J1.mpr ⟨c,hc,rfl⟩) r' ⟨tZ.1,tZ.2.symm⟩
    ·by_cases hy:y=[]
     ·subst hy
      have Eh:x=r:=by
       rcases e with e|e
       ·simpa using e
       ·exact absurd (List.append_eq_nil_iff.mp e.symm).2 n
      subst Eh
      exact .mk _ fun c hc r' tZ=>ih (x,c) (by rw[Fj n];exact J1.mpr ⟨c,hc,rfl⟩) r' tZ
     ·exact ih (x,y) (by rw[sX hx hy];exact Jg.mpr rfl) r ⟨n,e⟩
theorem En.FV {cs:List Sg}{x:Sg}(h:∀c∈cs,Fi cs (x,c)):En cs x := .mk _ fun c hc r hl=>(h c hc).ends r hl
inductive Rc (cs:List Sg):Sg×Sg->Prop
 | start (k:Nat) (d c:Sg) (h1:1<=k) (h2:k<d.length) (hd:d∈cs) (hc:c∈cs):Rc cs (d.drop k,c)
 | step (p q:Sg×Sg) (h:Rc cs p) (hq:q∈nx cs p):Rc cs q
theorem Fi.next {cs:List Sg}{p q:Sg×Sg}(h:Fi cs p)(hq:q∈nx cs p):Fi cs q:=by
 cases h with
 | fin=>simp[nx] at hq
 | step p h1 h2 h=>exact h q hq
theorem Rc.fn {cs:List Sg}(h:∀k d c,1<=k->k<d.length->d∈cs->c∈cs->Fi cs (d.drop k,c)){p:Sg×Sg}(r:Rc cs p):Fi cs p:=by
 induction r with
 | start k d c h1 h2 hd hc=>exact h k d c h1 h2 hd hc
 | step p q _ hq ih=>exact ih.next hq
theorem d7 (x y:Str):Txt.startswith x y=true↔sg y <+: sg x:=by
 have hl:y.length=(sg y).length:=str_len y
 have hx:x.length=(sg x).length:=str_len x
 have e:(x.cps.extract 0 (0+y.length)==y.cps)=true↔(sg x).take y.length=sg y:=by
  rw[beq_iff_eq,<-Array.toList_inj]
  simp[Array.toList_extract]
 show(decide (0+y.length<=x.length)&&(x.cps.extract 0 (0+y.length)==y.cps))=true↔_
 rw[Ys,decide_eq_true_iff,e]
 constructor
 ·rintro⟨_,h⟩
  rw[<-h]
  exact List.take_prefix _ _
 ·intro h
  exact⟨by have:=h.length_le;omega,by rw[hl];exact(List.prefix_iff_eq_take.mp h).symm⟩
theorem tH {x y:Str}(c:sg x <+: sg y):sg y=sg x++sg (Txt.slice y (some ((x.length:Nat):Int)) none):=by
 rw[eW,show x.length=(sg x).length from str_len x]
 exact List.prefix_iff_eq_append.mp c |>.symm
theorem vY {r:Str}:sg r=[]↔r = "":=⟨fun h=>fE (by rw[h];rfl),fun h=>by rw[h];rfl⟩
theorem nG {q:Str×Str}{x r:Str}:Bh q x r↔Lt (sg q.2) (sg x) (sg r):=by
 unfold Bh iK Lt
 rw[show(sg r≠[])↔(r ≠ "") from not_congr vY]
 by_cases c1:Txt.startswith x q.2=true
 ·rw[if_pos c1]
  have e:=tH ((d7 _ _).mp c1)
  refine⟨fun⟨h,n⟩=>⟨n,.inl ?_⟩,fun⟨n,h⟩=>⟨?_,n⟩⟩
  ·injection h with h;rw[<-h];exact e
  ·congr 1
   refine fE ?_
   rcases h with h|h
   ·rw[h] at e;exact(List.append_cancel_left e).symm
   ·exfalso
    have l1:=congrArg Ur h
    have l2:=congrArg Ur e
    rw[Jc] at l1 l2
    have:sg r=[]:=U7 (by omega)
    exact n (vY.mp this)
 ·rw[if_neg c1]
  by_cases c2:Txt.startswith q.2 x=true
  ·rw[if_pos c2]
   have e:=tH ((d7 _ _).mp c2)
   refine⟨fun⟨h,n⟩=>⟨n,.inr ?_⟩,fun⟨n,h⟩=>⟨?_,n⟩⟩
   ·injection h with h;rw[<-h];exact e
   ·congr 1
    refine fE ?_
    rcases h with h|h
    ·exact absurd ((d7 _ _).mpr ⟨_,h.symm⟩) c1
    ·rw[h] at e;exact(List.append_cancel_left e).symm
  ·rw[if_neg c2]
   refine⟨(fun h=>nomatch h.1),fun⟨_,h⟩=>?_⟩
   rcases h with h|h
   ·exact absurd ((d7 _ _).mpr ⟨_,h.symm⟩) c1
   ·exact absurd ((d7 _ _).mpr ⟨_,h.symm⟩) c2
noncomputable abbrev qC (B:List (Str×Str)):List Sg:=(B.map (·.2)).map sg
noncomputable def toS (s:Sg):Str:=⟨s.toArray⟩
theorem mV (s:Sg):sg (toS s)=s:=by show s.toArray.toList=s;exact Yk
theorem iL {B:List (Str×Str)}{c:Sg}:c∈qC B ↔ ∃q∈B,sg q.2=c:=by
 unfold qC
 rw[Ym,J1];rfl
theorem fg.lt {B:List (Str×Str)}{q:Str×Str}{x r:Str}(hq:q∈B)(hx:fg B x)(h:Bh q x r):fg B r:=by
 obtain⟨n,h⟩:=nG.mp h
 have hn:0<(sg r).length:=U1.mpr n
 rcases h with h|h
 ·obtain⟨q',hq',a,a1,a2,e⟩:=hx
  refine⟨q',hq',a+(sg q.2).length,by omega,?_,?_⟩
  ·have:=congrArg Ur (e.symm.trans h)
   rw[J9,Jc] at this
   omega
  ·have:(sg x).drop (sg q.2).length=sg r:=by rw[h,List.drop_left]
   rw[<-this,e,List.drop_drop]
 ·refine⟨q,hq,(sg x).length,?_,?_,?_⟩
  ·obtain⟨q',hq',a,a1,a2,e⟩:=hx
   rw[e,J9];omega
  ·rw[h,Jc];omega
  ·rw[h,List.drop_left]
theorem En.mem {B:List (Str×Str)}{E:List Str}(ek:∀r,fg B r->r∉E->∃q∈B,∃r',Bh q r r'/\r'∉E){s:Sg}(h:En (qC B) s):∀r,fg B r->sg r=s->r∈E:=by
 induction h with
 | mk s h ih=>
  intro r hr e
  refine Classical.byContradiction fun hn =>?_
  obtain⟨q,hq,r',hb,hn'⟩:=ek r hr hn
  exact hn' (ih (sg q.2) (iL.mpr ⟨q,hq,rfl⟩) (sg r') (by rw[<-e];exact nG.mp hb) r' (hr.lt hq hb) rfl)
noncomputable def KR (x:Str):Str:=Txt.slice x (some 1) none
theorem vH (x:Str):sg (KR x)=(sg x).tail:=by
 have:=eW (x:=x) 1
 rw[List.drop_one] at this
 exact this
noncomputable abbrev j4 (p:Str×Str):Sg×Sg:=(sg p.1,sg p.2)
noncomputable abbrev eP:Str×Str:=(Str.ofString "",Str.ofString "")
noncomputable def cA (cs:List Str)(x:Str):List Str:=if 1<x.length then [KR x] else cs
noncomputable def jI (cs:List Str)(p:Str×Str):List (Str×Str):=
 if (sg p.1).head? ≠ (sg p.2).head? ∨ sg p.1=[] then [] else if p.1.length=1/\p.2.length=1 then [eP] else (cA cs p.1).flatMap fun f=>(cA cs p.2).map fun s=>(f,s)
theorem pG {cs:List Str}{x:Str}:(cA cs x).map sg=if 1<(sg x).length then [(sg x).tail] else cs.map sg:=by
 have e:x.length=(sg x).length:=str_len x
 unfold cA
 rw[e]
 split
 ·rw[List.map_singleton,vH]
 ·rfl
theorem xV {cs:List Str}(p:Str×Str):(jI cs p).map j4=nx (cs.map sg) (j4 p):=by
 have e1:p.1.length=(sg p.1).length:=str_len _
 have e2:p.2.length=(sg p.2).length:=str_len _
 unfold jI nx
 rw[e1,e2]
 split
 ·rfl
 ·split
  ·rfl
  ·rw[List.map_flatMap,<-pG,<-pG,List.flatMap_map]
   congr 1
   funext f
   rw[Ym,Ym];rfl
def bQ (H:Hp)(z:Addr×(Str×Str)):Prop:=H z.1=some (.tup [.str z.2.1,.str z.2.2])
noncomputable abbrev refs (zs:List (Addr×(Str×Str))):List V:=zs.map fun z=>V.ref z.1
def tG (K:Jb):Sp:=fun vs H Q _=>om fun(l a:Addr) (cs:List Str) (p:Str×Str)=>vs=[.ref l,.ref a]/\H l=some (.lst (cs.map V.str))/\bQ H (a,p)/\cs.length<=16/\1<=p.1.length/\p.1.length<=12/\1<=p.2.length/\p.2.length<=12 /\
 ∀(zs:List (Addr×(Str×Str))) (r:Addr) (H':Hp),aw H H'->H r=none->H' r=some (.lst (refs zs))->zs.map (·.2)=jI cs p->(∀z∈zs,bQ H' z)->Q (.ref r) H'
theorem bQ.same {H H':Hp}{z:Addr×(Str×Str)}(h:bQ H z)(s:aw H H'):bQ H' z:=s _ _ h
theorem pd {cs:List Str}(h:cs.length<=16)(x:Str):(cA cs x).length<=16:=by
 unfold cA;split
 ·show 1<=16;decide
 ·exact h
theorem vq {K:Jb}{σ:L2.St}{i:Nat}{l:Addr}{z:Str}{cs:List Str}{H:Hp}{Qn:VK}(h0: σ[0]? = some (some (.ref l)))(hi: σ[i]? = some (some (.str z)))(hz:z.length<=12)(hl:H l=some (.lst (cs.map V.str)))
  (k:∀p H4,aw H H4->H4 p=some (.lst ((cA cs z).map V.str))->(p=l∨H p=none)->Qn (.ref p) H4) :
  LZ (sh (BQ (yw fun i j=>V.bl (decide (j<i))) (Kz (fun xs H Q=>∃x n,xs=[x]/\B4 K x H n/\Q (V.int (n:Nat)) H) (sC (mY i) Ab)) (tC (V.int 1)))) (vI (sC (HG (Fg K) (mY i) (AL (tC (V.int 1))) fD) Ab)) (mY 0) σ H Qn:=by
 refine⟨_,hi,_,_,rfl,⟨sizeOk (by omega),rfl⟩,_,_,rfl,rfl,_,rfl,ee (fun c =>?_) (fun c=>⟨_,h0,k l H (aw.refl _) ?_ (.inl rfl)⟩)⟩
 ·have c:=of_decide_eq_true c
  refine⟨_,hi,_,rfl,?_⟩
  dsimp only[fD]
  refine .inr ⟨z,rfl,sizeOk (by omega),by show 1<=sizeLine;decide,fun r H4 n4=>k r H4 n4.same ?_ (.inr n4.nn)⟩
  unfold cA;rw[if_pos (by omega)];exact n4.at
 ·unfold cA;rw[if_neg (fun z=>c (decide_eq_true (by omega)))];exact hl
section
variable {P:Program}{w:World}{K:Jb}{mg:Str->Option Value}{base:Heap}{f:Addr}{fd:FuncData}
theorem cT:aO ["_law_codes", "_law_pair", "_law_one", "_law_other", "_law_found", "_law_first"] ["_law_codes", "_law_pair"] (aB (top gC)):=⟨rfl,rfl,rfl,by decide +kernel,rfl,by decide +kernel,by decide +kernel⟩
theorem Cp (F:dh K "_law_steps" "_law_steps" (top gC) f fd)(T:Nm mg):bM P w K mg base gU 1 f fd ["_law_codes", "_law_pair"] (tG K):=by
 refine F.ok cT (fun vs H Q E h =>?_) (fun dG A outer s H vs Q E hr h =>?_)
 ·obtain⟨l,a,cs,p,rfl,_⟩:=h
  rfl
 unfold tG at h
 refine ae.el h _ ?_
 clear h
 rintro l a cs p rfl hl hp cl x0 x1 y0 y1 q
 obtain⟨x,y⟩:=p
 have fO:=hr.units
 have small:∀{n:Nat},n<=1000->n<sizeLine:=fun h=>Jy h (by decide)
 have ex:x.length=(sg x).length:=str_len x
 have ey:y.length=(sg y).length:=str_len y
 dsimp only at x0 x1 y0 y1
 obtain⟨cx,sx,hx⟩:∃c r,sg x=c::r:=by
  cases h:sg x with
  | nil=>rw[h] at ex;simp at ex;omega
  | cons c r=>exact⟨c,r,rfl⟩
 obtain⟨cy,sy,hy⟩:∃c r,sg y=c::r:=by
  cases h:sg y with
  | nil=>rw[h] at ey;simp at ey;omega
  | cons c r=>exact⟨c,r,rfl⟩
 have ax:nY x.cps.toList 0=some cx:=ic (by decide) (by show(sg x)[0]? = _;rw[hx];rfl)
 have ay:nY y.cps.toList 0=some cy:=ic (by decide) (by show(sg y)[0]? = _;rw[hy];rfl)
 refine⟨_,(ah (fq (pv 1) (tupK K 2 rfl (ar (ai (i:=2) cT.nd rfl (Or.inl rfl)) (ar (ai (i:=3) cT.nd rfl (Or.inl rfl)) bt))))
  (ah (bV (aG (rK K fO) (bK (i9 K) (pv 2) ao (fun _ _=>rfl)) (bK (i9 K) (pv 3) ao (fun _ _=>rfl)) (aM _)) (ak (aK (dy ag))) aW)
  (ah (bV (PW.pt (lh (aG (yc K fO) (au (dv K) rfl T.n_len (by rfl) (aa (pv 2) ag)) ao (aM _)) (iI (aG (yc K fO) (au (dv K) rfl T.n_len (by rfl) (aa (pv 3) ag)) ao (aM _))))) (ak (aK (dy (aa (fu (aa bb (aa bb ag))) ag)))) aW)
  (ah (aI (i:=4) cT.nd rfl (Or.inl rfl) (dy ag))
  (ah (dF PassesOwn.never rfl (fV K (gr (aG AR (au (dv K) rfl T.n_len (by rfl) (aa (pv 2) ag)) ao (aM _)) (dy (aa (cw (yj K) (pv 2) (dc ao) cU) ag)) (pv 0))) (ai (i:=5) cT.nd rfl (Or.inr rfl)) (ak (cH (oj K PySem.F.plainAttrs_list PySem.F.slot_list_extend PySem.F.type_list_extend nJ (pv 4) (aa (bC rfl (aN (Nc:=["_law_second"]) (Fc:=["_law_first"]) (js:=[5])) (fV K (gr (aG AR (au (dv K) rfl T.n_len (by rfl) (aa (pv 3) ag)) ao (aM _)) (dy (aa (cw (yj K) (pv 3) (dc ao) cU) ag)) (pv 0))) (aA (i:=0) (n:=1) (by decide)) (fun _ _ _ _ _=>(ai (i:=0) (dX ["_law_second", "_law_first"]) rfl (Or.inl rfl))) (fun _ _ _ _ _=>br) (fun _ _ _ _ _=>(fu (aa (pv 1) (aa (pv 0) ag))))) ag)))))
  (ak (aK (pv 4)))))))),?_⟩
 refine⟨_,rfl,a,_,rfl,d9.of hp,rfl,_,_,rfl,_,_,rfl,rfl,?_⟩
 refine⟨_,rfl,.inr (.inr ⟨x,_,cx,rfl,rfl,sizeOk (by omega),ax,_,rfl,.inr (.inr ⟨y,_,cy,rfl,rfl,sizeOk (by omega),ay,.inl ⟨rfl,_,rfl,?_⟩⟩)⟩)⟩
 have M9:(!decide (V.str ⟨#[cx]⟩=V.str ⟨#[cy]⟩))=true↔(sg x).head? ≠ (sg y).head?:=by
  rw[hx,hy]
  by_cases h:cx=cy
  ·subst h;simp
  ·rw[decide_eq_false (fun z=>h (by injection z with z;injection z with z;simpa using z))]
   exact⟨fun _ z=>h (Option.some.inj z),fun _=>rfl⟩
 refine ee (fun c=>⟨by show 0<=sizeLine;decide,fun r H1 n1=>q [] r H1 n1.same n1.nn n1.at ?_ (fun z h=>nomatch h)⟩) (fun c =>?_)
 ·unfold jI;rw[if_pos (.inl (M9.mp c))];rfl
 have jH:¬((sg x).head? ≠ (sg y).head? ∨ sg x=[]):=fun z=>z.elim (fun z=>c (M9.mpr z)) fun z=>by rw[hx] at z;cases z
 dsimp only[kU]
 refine cb (t:=uM _ _ _) (fun σ H'=>H'=H /\ σ=[some (.ref l),some (.ref a),some (.str x),some (.str y),none,none]/\¬(x.length=1/\y.length=1)) (fun Nx nx =>?_) ?_
 ·refine⟨_,rfl,_,_,rfl,⟨sizeOk (by omega),rfl⟩,.inl ⟨rfl,_,rfl,ee (fun c1 =>?_) (fun c1=>bA (nx _ _ ⟨rfl,rfl,fun z=>c1 ?_⟩))⟩⟩
  ·refine⟨_,rfl,_,_,rfl,⟨sizeOk (by omega),rfl⟩,.inl ⟨rfl,_,rfl,ee (fun c2 =>?_) (fun c2=>nx _ _ ⟨rfl,rfl,fun z=>c2 ?_⟩)⟩⟩
   ·refine⟨by show 2<=sizeLine;decide,fun t H1 n1=>⟨by show 1<=sizeLine;decide,fun r H2 n2=>q [(t,eP)] r H2 (n1.same.trans n2.same) (n1.back n2.nn) n2.at ?_ (fun z hz =>?_)⟩⟩
    ·unfold jI
     rw[if_neg jH,if_pos];rfl
     have e1:=of_decide_eq_true c1
     have e2:=of_decide_eq_true c2
     injection e1 with e1;injection e2 with e2
     exact⟨by show x.length=1;omega,by show y.length=1;omega⟩
    ·rw[Jg.mp hz];exact n2.same _ _ n1.at
   ·rw[z.2];rfl
  ·rw[z.1];rfl
 rintro σ H1 ⟨rfl,rfl,h11⟩
 refine⟨by show 0<=sizeLine;decide,fun pl H2 n2=>gn ?_⟩
 have EZ:H1 pl=none:=n2.nn
 have OO:jI cs (x,y)=(cA cs x).flatMap fun f=>(cA cs y).map fun s=>(f,s):=by
  unfold jI;rw[if_neg jH,if_neg h11]
 rw[OO] at q
 have fl:=pd cl x
 have Dt:=pd cl y
 obtain⟨fs,hfs⟩:∃fs,fs=cA cs x:=⟨_,rfl⟩
 obtain⟨ss,hss⟩:∃ss,ss=cA cs y:=⟨_,rfl⟩
 rw[<-hfs] at q fl
 rw[<-hss] at q Dt
 have PU:fs.length=1∨ss.length=1:=by
  rw[hfs,hss];unfold cA
  by_cases h1:1<x.length
  ·rw[if_pos h1];exact .inl rfl
  ·by_cases h2:1<y.length
   ·rw[if_pos h2];exact .inr rfl
   ·exact absurd ⟨by omega,by omega⟩ h11
 dsimp only
 have fW:∀{xs:List Str} {i:Nat} (hi:i<xs.length),(xs.map V.str)[i]? = some (.str xs[i]):=fun hi=>by rw[Jj,Jf hi];rfl
 refine cb (t:=lB _ _ _) (fun σ H'=>ck fun(x5:Option V) (zs:List (Addr×(Str×Str))) =>σ=[some (.ref l),some (.ref a),some (.str x),some (.str y),some (.ref pl),x5]/\aw H1 H'/\H' pl=some (.lst (refs zs))/\zs.map (·.2)=fs.flatMap (fun f=>ss.map fun s=>(f,s))/\∀z∈zs,bQ H' z) (fun Nx nx =>?_) ?_
 ·refine vq (K:=K) (i:=2) (cs:=cs) (l:=l) (z:=x) rfl rfl x1 (n2.same _ _ hl) fun p H3 s3 hp3 hpn=>⟨p,rfl,⟨_,aE.of hp3⟩,?_⟩
  rw[<-hfs] at hp3
  have Cv:=n2.same.trans s3
  have Ob:l≠pl:=aj hl n2.nn
  have NY:p≠pl:=hpn.elim (fun e=>e▸Ob) fun e z=>by rw[z,n2.at] at e;cases e
  refine eJ (N:=fs.length) (fun i σ H'=>ck fun(x5:Option V) (zs:List (Addr×(Str×Str))) =>σ=[some (.ref l),some (.ref a),some (.str x),some (.str y),some (.ref pl),x5]/\aw H1 H'/\H' p=some (.lst (fs.map V.str))/\H' pl=some (.lst (refs zs))/\zs.map (·.2)=(fs.take i).flatMap (fun f=>ss.map fun s=>(f,s))/\∀z∈zs,bQ H' z) ⟨_,[],rfl,Cv,hp3,s3 _ _ n2.at,rfl,fun z h=>nomatch h⟩ ?_ ?_
  ·intro i σ H4 hi
   refine ae.go ?_
   rintro x5 zs rfl s4 hp4 hpl4 ez hz
   refine⟨⟨_,_,aE.of hp4,fW hi⟩,?_⟩
   rintro v H5 ⟨rfl,hv⟩
   have e:=hv _ (aE.of hp4)
   rw[fW hi] at e;cases e
   refine gn ?_
   have cC:=aH hi
   generalize fs[i]=fi at cC
   dsimp only
   refine⟨_,rfl,.inl ⟨rfl,_,aE.of hpl4⟩,?_⟩
   refine vq (K:=K) (i:=3) (cs:=cs) (l:=l) (z:=y) rfl rfl y1 (s4 _ _ hl) fun p6 H6 s6 zC hpn6=>⟨p6,rfl,⟨_,aE.of zC⟩,?_⟩
   rw[<-hss] at zC
   refine bF (N:=ss.length) (fun k ys H'=>∃ws:List (Addr×(Str×Str)),ys=refs ws/\aw H6 H'/\ws.map (·.2)=(ss.take k).map (fun s=>(fi,s))/\∀z∈ws,bQ H' z) ⟨[],rfl,aw.refl _,rfl,fun z h=>nomatch h⟩ ?_ ?_
   ·intro k ys H7 Ny hk hz_ ny
    refine ae.el hz_ _ ?_
    clear hz_
    rintro ws rfl s7 ew hw
    have wl:ws.length=k:=by
     have:=congrArg Ur ew
     rw[Ja,Ja,Jr] at this
     omega
    refine⟨⟨_,_,aE.of (s7 _ _ zC),fW hk⟩,small (by rw[Ja];omega),?_⟩
    rintro v H8 ⟨rfl,hv⟩
    have e:=hv _ (aE.of (s7 _ _ zC))
    rw[fW hk] at e;cases e
    refine gn ?_
    dsimp only[kN]
    rw[if_pos rfl]
    refine⟨_,rfl,_,rfl,by show 2<=sizeLine;decide,fun t H9 n9=>ny _ _ ⟨ws++[(t,(fi,ss[k]))],by unfold refs;rw[Jh];rfl,s7.trans n9.same,?_,fun z hz =>?_⟩⟩
    ·rw[Jh,ew,aH hk,Jh];rfl
    ·rcases Ji.mp hz with hz|hz
     ·exact(hw z hz).same n9.same
     ·rw[Jg.mp hz];exact n9.at
   ·intro ys H7
    refine ae.go ?_
    rintro ws rfl s7 ew hw
    rw[Jz] at ew
    have wl:ws.length=ss.length:=by
     have:=congrArg Ur ew
     rw[Ja,Ja] at this
     exact this
    refine⟨⟨_,aE.of (s7 _ _ zC),by rw[Ja];exact Jd _⟩,fun t ht =>?_⟩
    obtain⟨H8,n8⟩:∃H8,dz H7 t (.lst (refs ws)) H8:=⟨_,ht,rfl⟩
    rw[<-n8.eq]
    have FZ:=(s6.trans s7).trans n8.same
    have zl:zs.length<=16*i:=by
     have:=congrArg Ur ez
     rw[Ja,List.length_flatMap] at this
     rw[this]
     have:((fs.take i).map fun f=>(ss.map fun s=>(f,s)).length).sum<=16*(fs.take i).length:=by
      generalize fs.take i=gs
      induction gs with
      | nil=>exact Jd _
      | cons g gs ih=>rw[Uc,List.sum_cons,Jx,Ja];omega
     rw[Jr] at this
     exact Js this (Nat.mul_le_mul_left _ (Nat.min_le_left _ _))
    refine⟨pl,t,_,_,rfl,rfl,FZ _ _ hpl4,n8.at,by rw[Ja,Ja];exact sizeOk (by omega),fun H9 c9=>⟨_,zs++ws,rfl,fun b o e =>?_,?_,?_,?_,fun z hz' =>?_⟩⟩
    ·rw[c9.ne (aj e EZ)];exact FZ _ _ (s4 b o e)
    ·rw[c9.ne NY];exact FZ _ _ hp4
    ·rw[c9.at];unfold refs;rw[Jh]
    ·rw[Jh,ez,ew,cC,List.flatMap_append,List.flatMap_cons,List.flatMap_nil,Uh]
    ·have hold:∀{b:Addr} {us:List V},H8 b=some (.tup us)->H9 b=some (.tup us):=fun{b us} e=>by
      rw[c9.ne (fun z=>by rw[z,FZ _ _ hpl4] at e;cases e)];exact e
     rcases Ji.mp hz' with hz'|hz'
     ·exact hold (FZ _ _ (hz z hz'))
     ·exact hold (n8.same _ _ (hw z hz'))
  ·intro σ H4
   refine ae.go ?_
   rintro x5 zs rfl s4 hp4 hpl4 ez hz
   rw[Jz] at ez
   exact⟨⟨_,aE.of hp4,by rw[Ja];exact Jd _⟩,nx _ _ ⟨x5,zs,rfl,s4,hpl4,ez,hz⟩⟩
 intro σ H3
 refine ae.go ?_
 rintro x5 zs rfl s3 mH ez hz
 exact⟨_,rfl,q zs pl H3 s3 EZ mH ez hz⟩
end
structure nL (cs:List Str):Prop where
 le:cs.length<=16
 cd:∀c∈cs,bh 12 c
def nZ (cs:List Str)(x:Str):Prop:=∃c∈cs,∃a,a<(sg c).length/\sg x=(sg c).drop a
def fQ (cs:List Str)(p:Str×Str):Prop:=nZ cs p.1/\nZ cs p.2
theorem nZ.code {cs:List Str}(g:nL cs){c:Str}(h:c∈cs):nZ cs c:=⟨c,h,0,by have:=(g.cd c h).pos;have e:c.length=(sg c).length:=str_len c;omega,rfl⟩
theorem nZ.len {cs:List Str}(g:nL cs){x:Str}(h:nZ cs x):1<=x.length/\x.length<=12:=by
 obtain⟨c,hc,a,ha,e⟩:=h
 have h1:=(g.cd c hc).le
 have e1:c.length=(sg c).length:=str_len c
 have e2:x.length=(sg x).length:=str_len x
 rw[e,J9] at e2
 omega
theorem nZ.bin {cs:List Str}(g:nL cs){x:Str}(h:nZ cs x):jJ x:=fun ch hc=>by
 obtain⟨c,zH,a,ha,e⟩:=h
 have hc:ch∈sg x:=hc
 rw[e] at hc
 exact(g.cd c zH).bin ch (Ww hc)
theorem nZ.tl {cs:List Str}{x:Str}(h:nZ cs x)(h1:1<x.length):nZ cs (KR x):=by
 obtain⟨c,hc,a,ha,e⟩:=h
 have e2:x.length=(sg x).length:=str_len x
 refine⟨c,hc,a+1,?_,?_⟩
 ·rw[e,J9] at e2;omega
 ·rw[vH,e,List.tail_drop]
theorem nZ.first {cs:List Str}(g:nL cs){x y:Str}(h:nZ cs x)(hy:y∈cA cs x):nZ cs y:=by
 unfold cA at hy
 split at hy
 ·rw[Jg.mp hy];exact h.tl (by assumption)
 ·exact nZ.code g hy
theorem fQ.next {cs:List Str}(g:nL cs){p q:Str×Str}(h:fQ cs p)(hq:q∈jI cs p):q=eP∨fQ cs q:=by
 unfold jI at hq
 split at hq
 ·cases hq
 ·split at hq
  ·exact .inl (Jg.mp hq)
  ·obtain⟨f,hf,hq⟩:=Wy.mp hq
   obtain⟨s,hs,rfl⟩:=J1.mp hq
   exact .inr ⟨h.1.first g hf,h.2.first g hs⟩
noncomputable def CU (cs:List Str):List Str:=cs.flatMap fun c=>(Wf (sg c).length).map fun a=>⟨((sg c).drop a).toArray⟩
theorem nZ.mem {cs:List Str}{x:Str}(h:nZ cs x):x∈CU cs:=by
 obtain⟨c,hc,a,ha,e⟩:=h
 refine Wy.mpr ⟨c,hc,J1.mpr ⟨a,Y9.mpr ha,fE ?_⟩⟩
 show((sg c).drop a).toArray.toList=_
 rw[Yk];exact e.symm
theorem zR {cs:List Str}(h:∀c∈cs,bh 12 c):(CU cs).length<=12*cs.length:=by
 induction cs with
 | nil=>exact Jd _
 | cons c cs ih=>
  have h1:=ih fun x hx=>h x (Jp _ hx)
  have h2:=(h c Jn).le
  have e:c.length=(sg c).length:=str_len c
  show(((Wf (sg c).length).map _)++CU cs).length<=_
  rw[Jc,Ja,Yt,Jx]
  omega
noncomputable def zj (cs:List Str):List (Str×Str):=eP::(CU cs).flatMap fun x=>(CU cs).map fun y=>(x,y)
theorem xx {cs:List Str}(g:nL cs):(zj cs).length<=40000:=by
 have h1:=zR g.cd
 have h2:=g.le
 have key:∀(l m:List Str),(l.flatMap fun x=>m.map fun y=>(x,y)).length=l.length*m.length:=fun l m=>by
  induction l with
  | nil=>simp
  | cons a l ih=>rw[List.flatMap_cons,Jc,ih,Ja,Jx,Nat.succ_mul];omega
 unfold zj
 rw[Jx,key]
 have:(CU cs).length*(CU cs).length<=192*192:=Nat.mul_le_mul (by omega) (by omega)
 omega
theorem fQ.mem {cs:List Str}{p:Str×Str}(h:p=eP∨fQ cs p):p∈zj cs:=by
 rcases h with rfl|⟨h1,h2⟩
 ·exact Jn
 ·exact Jp _ (Wy.mpr ⟨p.1,h1.mem,J1.mpr ⟨p.2,h2.mem,rfl⟩⟩)
noncomputable def pk (p:Str×Str):List Key:=[.inr p.1,.inr p.2]
theorem kO {p q:Str×Str}(h:pk p=pk q):p=q:=by
 obtain⟨a,b⟩:=p
 obtain⟨c,d⟩:=q
 injection h with h1 h2
 injection h2 with h2 _
 injection h1 with h1
 injection h2 with h2
 rw[show a=c from h1,show b=d from h2]
noncomputable def lu (r:(Str×Str)×Addr):List Key×V:=(pk r.1,.ref r.2)
def gA (cs:List Str)(H:Hp)(r:(Str×Str)×Addr):Prop:=∃zs,H r.2=some (.lst (refs zs))/\zs.map (·.2)=jI cs r.1/\∀z∈zs,bQ H z
theorem gA.same {cs:List Str}{H H':Hp}{r:(Str×Str)×Addr}(h:gA cs H r)(s:aw H H'):gA cs H' r:=by
 obtain⟨zs,h1,h2,h3⟩:=h
 exact⟨zs,s _ _ h1,h2,fun z hz=>(h3 z hz).same s⟩
theorem bQ.chg {H H':Hp}{a:Addr}{o u:HO}(c:lj H a o H')(ha:H a=some u)(nt:∀xs,u ≠ .tup xs){z:Addr×(Str×Str)}(h:bQ H z):bQ H' z:=by
 unfold bQ
 rw[c.ne (fun e=>by have h:=h;unfold bQ at h;rw[e,ha] at h;exact nt _ (Option.some.inj h))]
 exact h
theorem gA.chg {cs:List Str}{H H':Hp}{a:Addr}{o u:HO}(c:lj H a o H')(ha:H a=some u)(nt:∀xs,u ≠ .tup xs){r:(Str×Str)×Addr}(h:gA cs H r)(ne:r.2≠a):gA cs H' r:=by
 obtain⟨zs,h1,h2,h3⟩:=h
 exact⟨zs,by rw[c.ne ne];exact h1,h2,fun z hz=>(h3 z hz).chg c ha nt⟩
structure G5 (cs:List Str)(rs:List ((Str×Str)×Addr)):Prop where
 nd:(rs.map (·.1)).Nodup
 le:rs.length<=40000
 fin:eP∈rs.map (·.1)
 ok:∀p∈rs.map (·.1),p=eP∨(fQ cs p/\Rc (cs.map sg) (j4 p))
 ini:∀d∈cs,∀a,1<=a->a<(sg d).length->∀p:Str×Str,sg p.1=(sg d).drop a->p.2∈cs->p∈rs.map (·.1)
 cl:∀p∈rs.map (·.1),∀q∈jI cs p,q∈rs.map (·.1)
def sV (K:Jb):Sp:=fun vs H Q _=>ck fun(l:Addr) (cs:List Str)=>vs=[.ref l]/\H l=some (.lst (cs.map V.str))/\nL cs /\
 ∀(d:Addr) (rs:List ((Str×Str)×Addr)) (H':Hp),aw H H'->H d=none->H' d=some (.dT (rs.map lu))->G5 cs rs->(∀r∈rs,gA cs H' r)->Q (.ref d) H'
theorem xh {K:Jb}{H:Hp}:∀{ws:List (Addr×(Str×Str))},(∀z∈ws,bQ H z)->aL K H (ws.map fun z =>.tuple [.str z.2.1,.str z.2.2]) (refs ws)
 | [],_=>by unfold aL;rfl
 | z::ws,h=>by
  unfold refs
  rw[Uc,Uc]
  unfold aL
  refine⟨_,_,rfl,?_,xh fun y hy=>h y (Jp _ hy)⟩
  unfold Den
  refine⟨z.1,_,rfl,d9.of (h z Jn),?_⟩
  unfold aL
  refine⟨_,_,rfl,by unfold Den;rfl,?_⟩
  unfold aL
  refine⟨_,_,rfl,by unfold Den;rfl,?_⟩
  unfold aL;rfl
theorem HZ {ws:List (Addr×(Str×Str))}(h:∀z∈ws,jJ z.2.1/\jJ z.2.2):SeqAt.shaped (.list (ws.map fun z =>.tuple [.str z.2.1,.str z.2.2]))=true:=(Sh.list (n:=1) fun d hd=>by
 obtain⟨z,hz,rfl⟩:=J1.mp hd
 refine Sh.tuple fun e he =>?_
 simp at he
 rcases he with rfl|rfl
 ·exact Sh.str (bW fun ch hc=>by rcases(h z hz).1 ch hc with e|e<;>omega)
 ·exact Sh.str (bW fun ch hc=>by rcases(h z hz).2 ch hc with e|e<;>omega)).shaped (by decide)
theorem oZ (rs:List ((Str×Str)×Addr)):(rs.map lu).map (·.1)=(rs.map (·.1)).map pk:=by rw[Ym,Ym];rfl
theorem vD {rs:List ((Str×Str)×Addr)}{p:Str×Str}:(az (rs.map lu) (pk p)).isSome=true↔p∈rs.map (·.1):=by
 cases hv:az (rs.map lu) (pk p) with
 | none=>
  refine⟨(fun h=>nomatch h),fun h=>absurd ?_ (iM hv)⟩
  rw[oZ];exact Uj h
 | some v=>
  refine⟨fun _ =>?_,fun _=>rfl⟩
  have:=tj hv
  rw[oZ] at this
  obtain⟨x,hx,e⟩:=J1.mp this
  rw[<-kO e];exact hx
theorem rE {cs:List Str}(h:cs.length<=16)(p:Str×Str):(jI cs p).length<=16:=by
 have key:∀(l m:List Str),(l.flatMap fun x=>m.map fun y=>(x,y)).length=l.length*m.length:=fun l m=>by
  induction l with
  | nil=>simp
  | cons a l ih=>rw[List.flatMap_cons,Jc,ih,Ja,Jx,Nat.succ_mul];omega
 unfold jI
 split
 ·decide
 ·split
  ·decide
  ·rename_i h0 h1
   rw[key]
   unfold cA
   have eU:1<=p.1.length:=by
    have e:p.1.length=(sg p.1).length:=str_len _
    cases h:sg p.1 with
    | nil=>exact absurd (.inr h) h0
    | cons a r=>rw[e,h];simp
   have uk:1<=p.2.length:=by
    have e:p.2.length=(sg p.2).length:=str_len _
    cases h:sg p.2 with
    | nil=>
     cases h':sg p.1 with
     | nil=>exact absurd (.inr h') h0
     | cons a r=>exact absurd (.inl (by rw[h,h'];simp)) h0
    | cons a r=>rw[e,h];simp
   by_cases c1:1<p.1.length
   ·rw[if_pos c1]
    show 1*_<=16
    split
    ·show 1*1<=16;decide
    ·omega
   ·rw[if_neg c1,if_pos (by omega)]
    show _*1<=16
    omega
section
variable {P:Program}{w:World}{K:Jb}{mg:Str->Option Value}{base:Heap}{f:Addr}{fd:FuncData}
theorem cD:aO ["_law_codes", "_law_waiting", "_law_code", "_law_place", "_law_found", "_law_pair"] ["_law_codes"] (aB (top gu)):=⟨rfl,rfl,rfl,by decide +kernel,rfl,by decide +kernel,by decide +kernel⟩
theorem Ba (F:dh K "_law_pairs" "_law_pairs" (top gu) f fd)(T:Nm mg)(pf:Fn P w K mg base 1 "_law_steps" ["_law_codes", "_law_pair"] (tG K)):bM P w K mg base gU 2 f fd ["_law_codes"] (sV K):=by
 refine F.ok cD (fun vs H Q E h =>?_) (fun dG A outer s H vs Q E hr h =>?_)
 ·obtain⟨l,cs,rfl,_⟩:=h
  rfl
 unfold sV at h
 refine ae.el h _ ?_
 clear h
 rintro l cs rfl hl g q
 have hu:=eY hr
 have fO:=hr.units
 have hle:=g.le
 have small:∀{n:Nat},n<=1000->n<sizeLine:=fun h=>Jy h (by decide)
 have big:∀{n:Nat},n<=5000000->n<sizeLine:=fun h=>Jy h (by decide)
 have fW:∀{xs:List Str} {i:Nat} (hi:i<xs.length),(xs.map V.str)[i]? = some (.str xs[i]):=fun hi=>by rw[Jj,Jf hi];rfl
 refine⟨_,(ah (aI (i:=1) cD.nd rfl (Or.inl rfl) (dy ag))
  (ah (dF PassesOwn.never rfl (fV K (pv 0)) (ai (i:=2) cD.nd rfl (Or.inr rfl)) (ak (dF PassesOwn.never rfl (mD rfl T.n_range (aa ao (aa (au (dv K) rfl T.n_len (by rfl) (aa (pv 2) ag)) ag))) (ai (i:=3) cD.nd rfl (Or.inr rfl)) (ak (cH (oj K PySem.F.plainAttrs_list PySem.F.slot_list_extend PySem.F.type_list_extend nJ (pv 1) (aa (bC rfl (aN (Nc:=["_law_other"]) (Fc:=["_law_code", "_law_place"]) (js:=[2,3])) (fV K (pv 0)) (aA (i:=0) (n:=1) (by decide)) (fun _ _ _ _ _=>(ai (i:=0) (dX ["_law_other", "_law_code", "_law_place"]) rfl (Or.inl rfl))) (fun _ _ _ _ _=>br) (fun _ _ _ _ _=>(fu (aa (cw (yj K) (pv 1) (dc (pv 2)) cU) (aa (pv 0) ag))))) ag)))))))
  (ah (aI (i:=4) cD.nd rfl (Or.inl rfl) (oS hu (fu (aa bb (aa bb ag))) (dy ag)))
  (ah (gi PassesOwn.never (aG (rK K fO) (pv 1) (dy ag) (aM _)) (ah (aI (i:=5) cD.nd rfl (Or.inl rfl) (CL K PySem.F.plainAttrs_list PySem.F.slot_list_pop PySem.F.type_list_pop Lj (pv 1)))
  (ak (bV (fX (cI hu (pv 5) (pv 4))) (ah (jS hu (pv 4) (pv 5) (aY (pf.mono (by decide)) hr rfl (aa (pv 0) (aa (pv 5) ag))) rfl)
  (ak (cH (oj K PySem.F.plainAttrs_list PySem.F.slot_list_extend PySem.F.type_list_extend nJ (pv 1) (aa (cu hu (pv 4) (pv 5) (fun _ _=>rfl)) ag))))) aW))))
  (ak (aK (pv 4))))))),?_⟩
 refine⟨by show 0<=sizeLine;decide,fun wp H1 n1=>gn ?_⟩
 have Dc:H wp=none:=n1.nn
 have lw:l≠wp:=aj hl Dc
 dsimp only
 refine cb (t:=lB _ _ _) (fun σ H'=>fR fun(x2 x3:Option V) (ws:List (Addr×(Str×Str))) =>σ=[some (.ref l),some (.ref wp),x2,x3,none,none]/\aw H H'/\H' wp=some (.lst (refs ws))/\ws.length<=4000/\(∀z∈ws,bQ H' z/\fQ cs z.2/\Rc (cs.map sg) (j4 z.2))/\∀d∈cs,∀a,1<=a->a<(sg d).length->∀p:Str×Str,sg p.1=(sg d).drop a->p.2∈cs->p∈ws.map (·.2)) (fun Nx nx =>?_) ?_
 ·refine⟨_,rfl,l,rfl,⟨_,aE.of (n1.same _ _ hl)⟩,?_⟩
  refine eJ (N:=cs.length) (fun i σ H'=>fR fun(x2 x3:Option V) (ws:List (Addr×(Str×Str))) =>σ=[some (.ref l),some (.ref wp),x2,x3,none,none]/\aw H H'/\H' wp=some (.lst (refs ws))/\ws.length<=200*i/\(∀z∈ws,bQ H' z/\fQ cs z.2/\Rc (cs.map sg) (j4 z.2))/\∀d∈cs.take i,∀a,1<=a->a<(sg d).length->∀p:Str×Str,sg p.1=(sg d).drop a->p.2∈cs->p∈ws.map (·.2)) ⟨_,_,[],rfl,n1.same,n1.at,Jd _,(fun z h=>nomatch h),fun d h=>nomatch h⟩ ?_ ?_
  ·intro i σ H2 hi
   refine ae.go ?_
   rintro x2 x3 ws rfl s2 hw2 wl wz wc
   refine⟨⟨_,_,aE.of (s2 _ _ hl),fW hi⟩,?_⟩
   rintro v H3 ⟨rfl,hv⟩
   have e:=hv _ (aE.of (s2 _ _ hl))
   rw[fW hi] at e;cases e
   refine gn ?_
   have hm:=Jt hi
   have hc:=g.cd _ hm
   have cC:=aH hi
   generalize cs[i]=c at hm hc cC
   have P5:=hc.pos
   have Dm:=hc.le
   have ec:c.length=(sg c).length:=str_len c
   dsimp only
   refine⟨_,rfl,_,_,rfl,⟨sizeOk (by omega),rfl⟩,1,(c.length:Nat),rfl,⟨by omega,by omega,by omega,by omega⟩,?_⟩
   refine eJ (N:=c.length-1) (fun k σ H'=>ck fun(x3:Option V) (ws:List (Addr×(Str×Str))) =>σ=[some (.ref l),some (.ref wp),some (.str c),x3,none,none]/\aw H H'/\H' wp=some (.lst (refs ws))/\ws.length<=200*i+16*k/\(∀z∈ws,bQ H' z/\fQ cs z.2/\Rc (cs.map sg) (j4 z.2))/\(∀d∈cs.take i,∀a,1<=a->a<(sg d).length->∀p:Str×Str,sg p.1=(sg d).drop a->p.2∈cs->p∈ws.map (·.2))/\∀a,1<=a->a<=k->∀p:Str×Str,sg p.1=(sg c).drop a->p.2∈cs->p∈ws.map (·.2)) ⟨_,ws,rfl,s2,hw2,by omega,wz,wc,fun a h1 h2=>absurd h1 (by omega)⟩ ?_ ?_
   ·intro k σ H3 hk
    refine ae.go ?_
    clear wl wz wc hw2 s2
    rintro x3 ws rfl s3 Dy wl wz wc wd
    refine⟨by show k<_;omega,?_⟩
    rintro v H4 ⟨rfl,rfl⟩
    refine gn ?_
    refine⟨_,rfl,.inl ⟨rfl,_,aE.of Dy⟩,?_⟩
    have gY:=s3 _ _ hl
    refine⟨_,rfl,l,rfl,⟨_,aE.of gY⟩,?_⟩
    obtain⟨r,lF⟩:∃r,r=Txt.slice c (some ((1+k:Nat):Int)) none:=⟨_,rfl⟩
    have er:sg r=(sg c).drop (1+k):=by rw[lF];exact eW (x:=c) (1+k)
    refine bF (N:=cs.length) (fun j ys H'=>∃us:List (Addr×(Str×Str)),ys=refs us/\aw H4 H'/\us.map (·.2)=(cs.take j).map (fun o=>(r,o))/\∀z∈us,bQ H' z) ⟨[],rfl,aw.refl _,rfl,fun z h=>nomatch h⟩ ?_ ?_
    ·intro j ys H5 Ny hj hz_ ny
     refine ae.el hz_ _ ?_
     clear hz_
     rintro us rfl s5 eu hu'
     have ul:us.length=j:=by
      have:=congrArg Ur eu
      rw[Ja,Ja,Jr] at this
      omega
     refine⟨⟨_,_,aE.of (s5 _ _ gY),fW hj⟩,small (by rw[Ja];omega),?_⟩
     rintro v H6 ⟨rfl,hv⟩
     have e:=hv _ (aE.of (s5 _ _ gY))
     rw[fW hj] at e;cases e
     refine gn ?_
     dsimp only[kN]
     rw[if_pos rfl]
     refine⟨_,rfl,_,rfl,_,rfl,?_⟩
     dsimp only[fD]
     refine .inr ⟨c,rfl,sizeOk (by omega),?_⟩
     rw[show((1:Int)+(k:Int))=((1+k:Nat):Int) by omega,<-lF]
     refine⟨_,rfl,by show 2<=sizeLine;decide,fun t H7 n7=>ny _ _ ⟨us++[(t,(r,cs[j]))],by unfold refs;rw[Jh];rfl,s5.trans n7.same,?_,fun z hz =>?_⟩⟩
     ·rw[Jh,eu,aH hj,Jh];rfl
     ·rcases Ji.mp hz with hz|hz
      ·exact(hu' z hz).same n7.same
      ·rw[Jg.mp hz];exact n7.at
    ·intro ys H5
     refine ae.go ?_
     rintro us rfl s5 eu hu'
     rw[Jz] at eu
     have ul:us.length=cs.length:=by
      have:=congrArg Ur eu
      rw[Ja,Ja] at this
      exact this
     refine⟨⟨_,aE.of (s5 _ _ gY),by rw[Ja];exact Jd _⟩,fun t ht =>?_⟩
     obtain⟨H6,n6⟩:∃H6,dz H5 t (.lst (refs us)) H6:=⟨_,ht,rfl⟩
     rw[<-n6.eq]
     have JG:=s5.trans n6.same
     have qr:=JG _ _ Dy
     refine⟨wp,t,_,_,rfl,rfl,qr,n6.at,by rw[Ja,Ja];exact sizeOk (by omega),fun H7 c7=>⟨_,ws++us,rfl,fun b o e =>?_,?_,by rw[Jc];omega,fun z hz =>?_,fun d hd a h1 h2 p e1 e2 =>?_,fun a h1 h2 p e1 e2 =>?_⟩⟩
     ·rw[c7.ne (aj e Dc)];exact JG _ _ (s3 b o e)
     ·rw[c7.at];unfold refs;rw[Jh]
     ·rcases Ji.mp hz with hz|hz
      ·obtain⟨h1,h2⟩:=wz z hz
       exact⟨(h1.same JG).chg c7 qr (fun _ z=>nomatch z),h2⟩
      ·refine⟨((hu' z hz).same n6.same).chg c7 qr (fun _ z=>nomatch z),?_⟩
       have:z.2∈us.map (·.2):=Uj hz
       rw[eu] at this
       obtain⟨o,ho,e⟩:=J1.mp this
       rw[<-e]
       refine⟨⟨⟨c,hm,1+k,by omega,er⟩,nZ.code g ho⟩,?_⟩
       have:=Rc.start (cs:=cs.map sg) (1+k) (sg c) (sg o) (by omega) (by omega) (Uj hm) (Uj ho)
       rw[<-er] at this
       exact this
     ·rw[Jh];exact Ud _ (wc d hd a h1 h2 p e1 e2)
     ·rw[Jh]
      by_cases hak:a<=k
      ·exact Ud _ (wd a h1 hak p e1 e2)
      ·refine Jk _ ?_
       rw[eu]
       have ea:a=1+k:=by omega
       rw[ea,<-er] at e1
       refine J1.mpr ⟨p.2,e2,?_⟩
       rw[<-fE e1]
   ·intro σ H3
    refine ae.go ?_
    clear wl wz wc hw2 s2
    rintro x3 ws rfl s3 Dy wl wz wc wd
    refine⟨by show _<=_;omega,_,_,ws,rfl,s3,Dy,by omega,wz,fun d hd a h1 h2 p e1 e2 =>?_⟩
    rw[cC] at hd
    rcases Ji.mp hd with hd|hd
    ·exact wc d hd a h1 h2 p e1 e2
    ·rw[Jg.mp hd] at h2 e1
     exact wd a h1 (by omega) p e1 e2
  ·intro σ H2
   refine ae.go ?_
   rintro x2 x3 ws rfl s2 hw2 wl wz wc
   rw[Jz] at wc
   exact⟨⟨_,aE.of (s2 _ _ hl),by rw[Ja];exact Jd _⟩,nx _ _ ⟨x2,x3,ws,rfl,s2,hw2,by omega,wz,wc⟩⟩
 intro σ H2
 refine ae.go ?_
 rintro x2 x3 ws rfl s2 hw2 wl wz wc
 refine fun d H3 n3=>⟨by show 2<=sizeLine;decide,fun t H4 n4=>⟨by show 0<=sizeLine;decide,fun e0 H5 n5=>⟨n5.same _ _ (n4.same _ _ n3.at),pk eP,t,rfl,n5.same _ _ n4.at,fun H6 c6=>gn ?_⟩⟩⟩
 have ya:=n5.same _ _ (n4.same _ _ n3.at)
 have LP:=(n3.same.trans n4.same).trans n5.same
 have dw:d≠wp:=fun z=>by have:=n3.nn;rw[z,hw2] at this;cases this
 have yn:H d=none:=by
  cases e:H d with
  | none=>rfl
  | some o=>have:=n3.nn;rw[s2 _ _ e] at this;cases this
 have ew:e0≠wp:=fun z=>by have:=n5.nn;rw[z,n4.same _ _ (n3.same _ _ hw2)] at this;cases this
 have ed:e0≠d:=fun z=>by have:=n5.nn;rw[z,n4.same _ _ n3.at] at this;cases this
 have s6:aw H H6:=fun b o e=>by rw[c6.ne (aj e yn)];exact LP _ _ (s2 b o e)
 have qr:H6 wp=some (.lst (refs ws)):=by rw[c6.ne (Ne.symm dw)];exact LP _ _ hw2
 have Ox:H6 e0=some (.lst []):=by rw[c6.ne ed];exact n5.at
 have Ma:∀z∈ws,bQ H6 z/\fQ cs z.2/\Rc (cs.map sg) (j4 z.2):=fun z hz=>⟨((wz z hz).1.same LP).chg c6 ya (fun _ z=>nomatch z),(wz z hz).2⟩
 dsimp only
 let J:Nat->L2.St->Hp->Prop:=fun m σ H'=>fR fun(x5:Option V) (us:List (Addr×(Str×Str))) (rs:List ((Str×Str)×Addr)) =>σ=[some (.ref l),some (.ref wp),x2,x3,some (.ref d),x5]/\aw H H'/\H' wp=some (.lst (refs us))/\H' d=some (.dT (rs.map lu))/\us.length<=4000+16*rs.length/\(∀z∈us,bQ H' z/\(z.2=eP∨fQ cs z.2/\Rc (cs.map sg) (j4 z.2)))/\(∀r∈rs,r.2≠wp/\r.2≠d/\gA cs H' r)/\(rs.map (·.1)).Nodup/\eP∈rs.map (·.1)/\(∀p∈rs.map (·.1),p=eP∨(fQ cs p/\Rc (cs.map sg) (j4 p)))/\(∀p∈ws.map (·.2),p∈us.map (·.2)∨p∈rs.map (·.1))/\(∀p∈rs.map (·.1),∀q∈jI cs p,q∈us.map (·.2)∨q∈rs.map (·.1))/\m=us.length+20*(40000-rs.length)
 have Mx:∀{rs:List ((Str×Str)×Addr)},(rs.map (·.1)).Nodup->(∀p∈rs.map (·.1),p=eP∨(fQ cs p/\Rc (cs.map sg) (j4 p)))->rs.length<=40000:=fun{rs} nd h=>by
  have:=Js (cF (m:=zj cs) nd fun x hx=>fQ.mem ((h x hx).imp id fun z=>z.1)) (xx g)
  rwa[Ja] at this
 refine cb (t:=ig _ _) (fun σ H'=>fR fun(x5:Option V) (us:List (Addr×(Str×Str))) (rs:List ((Str×Str)×Addr)) =>σ=[some (.ref l),some (.ref wp),x2,x3,some (.ref d),x5]/\aw H H'/\H' d=some (.dT (rs.map lu))/\G5 cs rs/\∀r∈rs,gA cs H' r) (fun Nx nx =>?_) ?_
 ·refine iG J ⟨_,none,ws,[(eP,e0)],rfl,s6,qr,?_,by omega,fun z hz=>⟨(Ma z hz).1,.inr (Ma z hz).2⟩,fun r hr =>?_,by simp,by simp,fun p hp =>?_,fun p hp =>.inl hp,fun p hp q hq =>?_,rfl⟩ ?_
  ·rw[c6.at];rfl
  ·rw[Jg.mp hr]
   exact⟨ew,ed,[],Ox,rfl,fun z h=>nomatch h⟩
  ·simp at hp;exact .inl hp
  ·simp at hp
   rw[hp] at hq
   exact absurd hq (by unfold jI;rw[if_pos (.inr rfl)];exact fun z=>nomatch z)
  intro m σ H7
  refine ae.go ?_
  rintro x5 us rs rfl s7 A0 yq ul uz rz nd fn ok ini cl rfl
  have rl:=Mx nd ok
  have rR:∀z∈us,jJ z.2.1/\jJ z.2.2:=fun z hz=>by
   rcases(uz z hz).2 with e|⟨⟨h1,h2⟩,_⟩
   ·rw[e];exact⟨(fun ch hc=>nomatch hc),fun ch hc=>nomatch hc⟩
   ·exact⟨h1.bin g,h2.bin g⟩
  refine⟨_,rfl,by show 0<=sizeLine;decide,fun p8 H8 n8 =>.inr ⟨_,_,Den.list (aE.of (n8.same _ _ A0)) (xh fun z hz=>(uz z hz).1.same n8.same),Den.list (aE.of n8.at) (by unfold aL;rfl),HZ rR,gK,_,rfl,?_⟩⟩
  rw[hX]
  rw[List.isEmpty_map]
  have s8:=s7.trans n8.same
  have yu:=n8.same _ _ A0
  have Mb:=n8.same _ _ yq
  by_cases hv:us=[]
  ·have e:(!us.isEmpty)=false:=by rw[hv];rfl
   rw[e]
   refine bA (nx _ _ ⟨x5,us,rs,rfl,s8,Mb,⟨nd,rl,fn,ok,fun d' hd' a h1 h2 p e1 e2=>(ini p (wc d' hd' a h1 h2 p e1 e2)).resolve_left ?_,fun p hp q hq=>(cl p hp q hq).resolve_left ?_⟩,fun r hr=>(rz r hr).2.2.same n8.same⟩)
   ·rw[hv];exact fun z=>nomatch z
   ·rw[hv];exact fun z=>nomatch z
  obtain⟨us',⟨a,p⟩,rfl⟩:∃us' x,us=us'++[x]:=⟨_,_,(Wg hv).symm⟩
  have e:(!(us'++[(a,p)]).isEmpty)=true:=by cases us'<;>rfl
  rw[e]
  obtain⟨Gu,B2⟩:=uz (a,p) (Jk _ (Jg.mpr rfl))
  have Gu:=Gu.same n8.same
  rw[Jc] at ul
  have ul:us'.length+1<=4000+16*rs.length:=ul
  refine e7 ⟨fun σ' H'=>∃m',m'<(us'++[(a,p)]).length+20*(40000-rs.length)/\J m' σ' H',fun _ _ h=>h,?_⟩
  have wO:H8 wp=some (.lst (refs us'++[.ref a])):=by rw[yu];unfold refs;rw[Jh];rfl
  refine⟨_,rfl,.inl ⟨rfl,_,aE.of wO⟩,wp,_,.ref a,rfl,rfl,wO,?_,fun H9 c9=>gn ?_⟩
  ·rw[Jc,Ui (by show _<=_+1-1;omega)]
   show[V.ref a][(refs us').length+1-1-(refs us').length]? = _
   rw[show(refs us').length+1-1-(refs us').length=0 by omega];rfl
  have LA:H9 wp=some (.lst (refs us')):=by rw[c9.at];exact congrArg (fun l=>some (HO.lst l)) List.dropLast_concat
  have Dp:H9 d=some (.dT (rs.map lu)):=by rw[c9.ne dw];exact Mb
  have s9:aw H H9:=fun b o e=>by rw[c9.ne (aj e Dc)];exact s8 b o e
  have qq:bQ H9 (a,p):=Gu.chg c9 wO (fun _ z=>nomatch z)
  have Mw:∀z∈us',bQ H9 z/\(z.2=eP∨fQ cs z.2/\Rc (cs.map sg) (j4 z.2)):=fun z hz=>by
   obtain⟨h1,h2⟩:=uz z (Ud _ hz)
   exact⟨(h1.same n8.same).chg c9 wO (fun _ z=>nomatch z),h2⟩
  have Mi:∀r∈rs,r.2≠wp/\r.2≠d/\gA cs H9 r:=fun r hr=>by
   obtain⟨h1,h2,h3⟩:=rz r hr
   exact⟨h1,h2,(h3.same n8.same).chg c9 wO (fun _ z=>nomatch z) h1⟩
  dsimp only
  refine⟨_,rfl,_,rfl,d,_,rfl,dR.t (k:=pk p) Dp qq,_,rfl,?_⟩
  by_cases fM:p∈rs.map (·.1)
  ·rw[vD.mpr fM]
   refine bA ⟨us'.length+20*(40000-rs.length),by rw[Jc];show _<_+1+_;omega,_,us',rs,rfl,s9,LA,Dp,by omega,Mw,Mi,nd,fn,ok,fun p' hp' =>?_,fun p' hp' q' hq' =>?_,rfl⟩
   ·rcases ini p' hp' with h|h
    ·rw[Jh] at h
     rcases Ji.mp h with h|h
     ·exact .inl h
     ·rw[Jg.mp h];exact .inr fM
    ·exact .inr h
   ·rcases cl p' hp' q' hq' with h|h
    ·rw[Jh] at h
     rcases Ji.mp h with h|h
     ·exact .inl h
     ·rw[Jg.mp h];exact .inr fM
    ·exact .inr h
  have eN:(az (rs.map lu) (pk p)).isSome=false:=by
   cases hs:(az (rs.map lu) (pk p)).isSome with
   | false=>rfl
   | true=>exact absurd (vD.mp hs) fM
  have L4:az (rs.map lu) (pk p)=none:=by
   cases hs:az (rs.map lu) (pk p) with
   | none=>rfl
   | some v=>rw[hs] at eN;cases eN
  rw[eN]
  have B2:fQ cs p/\Rc (cs.map sg) (j4 p):=B2.resolve_left fun z=>fM (by rw[show p=eP from z];exact fn)
  have l1:=B2.1.1.len g
  have l2:=B2.1.2.len g
  have yk:((rs++[(p,wp)]).map (·.1)).Nodup:=by
   rw[Jh]
   exact List.nodup_append.mpr ⟨nd,by simp,fun x hx y hy e=>fM (by have z:y=p:=Jg.mp hy;rw[<-z,<-e];exact hx)⟩
  have K5:∀x∈(rs++[(p,wp)]).map (·.1),x=eP∨(fQ cs x/\Rc (cs.map sg) (j4 x)):=fun x hx=>by
   rw[Jh] at hx
   rcases Ji.mp hx with h|h
   ·exact ok x h
   ·rw[Jg.mp h];exact .inr B2
  have P8:rs.length+1<=40000:=by
   have:=Mx yk K5
   rwa[Jc] at this
  refine e7 ⟨_,rfl,_,rfl,l,a,cs,p,rfl,s9 _ _ hl,qq,hle,l1.1,l1.2,l2.1,l2.2,fun zs r H10 s10 hrn hr10 ez hz =>?_⟩
  have uo:=s10 _ _ Dp
  have KC:=s10 _ _ LA
  have qm:r≠wp:=fun z=>by rw[z,LA] at hrn;cases hrn
  have rd:r≠d:=fun z=>by rw[z,Dp] at hrn;cases hrn
  refine⟨_,rfl,_,rfl,d,_,rfl,iW.t (k:=pk p) uo (s10 _ _ qq) (big (by rw[Ja];omega)),?_⟩
  rw[cM _ L4]
  obtain⟨uQ,c11⟩:∃uQ,lj H10 d (.dT ((rs++[(p,r)]).map lu)) uQ:=⟨_,⟨rfl⟩⟩
  have ep:rs.map lu++[(pk p,V.ref r)]=(rs++[(p,r)]).map lu:=by rw[Jh];rfl
  rw[ep,<-c11.eq]
  have u0:uQ wp=some (.lst (refs us')):=by rw[c11.ne (Ne.symm dw)];exact KC
  have EY:uQ r=some (.lst (refs zs)):=by rw[c11.ne rd];exact hr10
  have wJ:bQ uQ (a,p):=(qq.same s10).chg c11 uo (fun _ z=>nomatch z)
  have val:az ((rs++[(p,r)]).map lu) (pk p)=some (.ref r):=by rw[<-ep,<-cM (V.ref r) L4,iJ,if_pos rfl]
  have zl:zs.length<=16:=by
   have:=congrArg Ur ez
   rw[Ja] at this
   rw[this];exact rE hle p
  refine⟨_,rfl,.inl ⟨rfl,_,aE.of u0⟩,?_⟩
  refine⟨_,rfl,_,rfl,d,.ref r,rfl,?_,?_⟩
  ·have:=dR.t (k:=pk p) c11.at wJ
   rw[val] at this
   exact this
  refine⟨wp,r,_,_,rfl,rfl,u0,EY,by rw[Ja,Ja];exact sizeOk (by omega),fun H12 c12=>⟨(us'++zs).length+20*(40000-(rs++[(p,r)]).length),?_,_,us'++zs,rs++[(p,r)],rfl,fun b o e =>?_,?_,?_,?_,fun z hz' =>?_,fun y hy =>?_,?_,?_,?_,fun p' hp' =>?_,fun p' hp' q' hq' =>?_,rfl⟩⟩
  ·rw[Jc,Jc,Jc];show _+_+20*(40000-(rs.length+1))<_+1+_;omega
  ·rw[c12.ne (aj e Dc),c11.ne (aj e yn)];exact s10 _ _ (s9 b o e)
  ·rw[c12.at];unfold refs;rw[Jh]
  ·rw[c12.ne dw];exact c11.at
  ·rw[Jc,Jc];show _+_<=4000+16*(rs.length+1);omega
  ·rcases Ji.mp hz' with hz'|hz'
   ·obtain⟨h1,h2⟩:=Mw z hz'
    exact⟨((h1.same s10).chg c11 uo (fun _ z=>nomatch z)).chg c12 u0 (fun _ z=>nomatch z),h2⟩
   ·refine⟨((hz z hz').chg c11 uo (fun _ z=>nomatch z)).chg c12 u0 (fun _ z=>nomatch z),?_⟩
    have hq:z.2∈jI cs p:=by rw[<-ez];exact Uj hz'
    refine(B2.1.next g hq).imp id fun h=>⟨h,.step _ _ B2.2 ?_⟩
    rw[<-xV];exact Uj hq
  ·rcases Ji.mp hy with hy|hy
   ·obtain⟨h1,h2,h3⟩:=Mi y hy
    exact⟨h1,h2,((h3.same s10).chg c11 uo (fun _ z=>nomatch z) h2).chg c12 u0 (fun _ z=>nomatch z) h1⟩
   ·rw[Jg.mp hy]
    exact⟨qm,rd,zs,by rw[c12.ne qm];exact EY,ez,fun z hz'=>((hz z hz').chg c11 uo (fun _ z=>nomatch z)).chg c12 u0 (fun _ z=>nomatch z)⟩
  ·rw[Jh] at yk ⊢;exact yk
  ·rw[Jh];exact Ud _ fn
  ·rw[Jh] at K5 ⊢;exact K5
  ·rw[Jh,Jh]
   rcases ini p' hp' with h|h
   ·rw[Jh] at h
    rcases Ji.mp h with h|h
    ·exact .inl (Ud _ h)
    ·exact .inr (Jk _ h)
   ·exact .inr (Ud _ h)
  ·rw[Jh] at hp' ⊢
   rw[Jh]
   rcases Ji.mp hp' with hp'|hp'
   ·rcases cl p' hp' q' hq' with h|h
    ·rw[Jh] at h
     rcases Ji.mp h with h|h
     ·exact .inl (Ud _ h)
     ·exact .inr (Jk _ h)
    ·exact .inr (Ud _ h)
   ·rw[Jg.mp hp',<-ez] at hq'
    exact .inl (Jk _ hq')
 intro σ H7
 refine ae.go ?_
 rintro x5 us rs rfl s7 yq pr hn
 exact⟨_,rfl,q d rs H7 s7 yn yq pr hn⟩
end
noncomputable def ov:Option Int->V
 | none =>.non
 | some n =>.int n
def Iq (cs:List Str)(H:Hp)(v:V):Prop:=∃a,v = .ref a/\((DN H a 0/\∃p,Rc (cs.map sg) p/\¬Fi (cs.map sg) p)∨∃kvs,H a=some (.dT kvs)/\kvs≠[]/\∀p,Rc (cs.map sg) p->Fi (cs.map sg) p)
def rW (K:Jb):Sp:=fun vs H Q _=>ck fun(l:Addr) (cs:List Str)=>vs=[.ref l]/\H l=some (.lst (cs.map V.str))/\nL cs /\
 ∀(v:V) (H':Hp),aw H H'->Iq cs H' v->Q v H'
theorem Lx (x y:Str):PyData.eqv (.tuple [.str x,.str y]) (.tuple [.str (Str.ofString ""),.str (Str.ofString "")])=decide ((x,y)=eP):=by
 have e:((x,y)=eP)↔(x=Str.ofString "" /\ y=Str.ofString ""):=⟨fun h=>by injection h with h1 h2;exact⟨h1,h2⟩,fun⟨h1,h2⟩=>by rw[h1,h2]⟩
 have h:PyData.eqv (.tuple [.str x,.str y]) (.tuple [.str (Str.ofString ""),.str (Str.ofString "")])=(x==Str.ofString "" && y==Str.ofString ""):=by simp[PyData.eqv,PyData.eqvAll]
 rw[h,Bool.eq_iff_iff,Ys,decide_eq_true_iff,e]
 exact and_congr beq_iff_eq beq_iff_eq
theorem FY {K:Jb}{H:Hp}{z:Addr×(Str×Str)}(h:bQ H z):Den K H (.tuple [.str z.2.1,.str z.2.2]) (.ref z.1):=by
 have:=xh (K:=K) (ws:=[z]) (H:=H) fun y hy=>by rw[Jg.mp hy];exact h
 unfold refs at this
 rw[List.map_singleton,List.map_singleton] at this
 unfold aL at this
 refine ae.el (this) _ ?_
 rintro v r e h1 _
 cases e
 exact h1
theorem M6 {x y:Str}(h1:jJ x)(h2:jJ y):SeqAt.shaped (.tuple [.str x,.str y])=true:=(Sh.tuple (n:=0) fun e he=>by
 simp at he
 rcases he with rfl|rfl
 ·exact Sh.str (bW fun ch hc=>by rcases h1 ch hc with e|e<;>omega)
 ·exact Sh.str (bW fun ch hc=>by rcases h2 ch hc with e|e<;>omega)).shaped (by decide)
structure sJ (cs:List Str)(rs:List ((Str×Str)×Addr))(kvs:List (List Key×V)):Prop where
 nd:(kvs.map (·.1)).Nodup
 so:∀k v,az kvs k=some v->∃p o,k=pk p/\p∈rs.map (·.1)/\v=ov o/\Fi (cs.map sg) (j4 p)
theorem sJ.le {cs:List Str}{rs:List ((Str×Str)×Addr)}{kvs:List (List Key×V)}(h:sJ cs rs kvs)(pr:G5 cs rs):kvs.length<=40000:=by
 have:=cF (m:=(rs.map (·.1)).map pk) h.nd fun k hk=>by
  cases hv:az kvs k with
  | none=>exact absurd hk (iM hv)
  | some v=>
   obtain⟨p,o,rfl,hp,_⟩:=h.so k v hv
   exact Uj hp
 rw[Ja,Ja,Ja] at this
 exact Js this pr.le
theorem sJ.at {cs:List Str}{rs:List ((Str×Str)×Addr)}{kvs:List (List Key×V)}(h:sJ cs rs kvs){p:Str×Str}(hp:(az kvs (pk p)).isSome=true):∃o,az kvs (pk p)=some (ov o)/\Fi (cs.map sg) (j4 p):=by
 cases hv:az kvs (pk p) with
 | none=>rw[hv] at hp;cases hp
 | some v=>
  refine ae.el (h.so _ _ hv) _ ?_
  rintro p' o e _ rfl hw
  rw[<-kO e] at hw
  exact⟨o,rfl,hw⟩
theorem xW {cs:List Str}{rs:List ((Str×Str)×Addr)}(pr:G5 cs rs){H:Hp}{d:Addr}{ob:Obj}(hd:H d=some (.frz ob (.dT (rs.map lu))))(hn:∀r∈rs,gA cs H r){b:Addr}{p:Str×Str}(hb:bQ H (b,p))(hp:p∈rs.map (·.1)):
  ∃r zs,dR H d (.ref b) (some (.ref r))/\H r=some (.lst (refs zs))/\zs.map (·.2)=jI cs p/\∀z∈zs,bQ H z:=by
 refine ae.el (J1.mp hp) _ ?_
 rintro r hr rfl
 obtain⟨zs,h1,h2,h3⟩:=hn r hr
 refine⟨r.2,zs,?_,h1,h2,h3⟩
 refine .inr ⟨_,pk r.1,b,.inr ⟨ob,hd⟩,rfl,hb,?_⟩
 have key:∀{rs:List ((Str×Str)×Addr)},(rs.map (·.1)).Nodup->r∈rs->az (rs.map lu) (pk r.1)=some (.ref r.2):=fun{rs} nd hm=>by
  induction rs with
  | nil=>cases hm
  | cons x rs ih=>
   rw[Uc,Yd] at nd
   rcases Um.mp hm with e|hm
   ·subst e
    unfold az;simp[lu]
   ·have:x.1≠r.1:=fun e=>nd.1 (by rw[e];exact Uj hm)
    rw[Uc,<-ih nd.2 hm]
    unfold az
    rw[List.find?_cons_of_neg (by rw[decide_eq_true_iff];exact fun e=>this (kO e))]
 exact(key pr.nd hr).symm
theorem sJ.put {cs:List Str}{rs:List ((Str×Str)×Addr)}{kvs:List (List Key×V)}(h:sJ cs rs kvs){p:Str×Str}(n1:sg p.1≠[])(n2:sg p.2≠[])(all:∀q∈jI cs p,(az kvs (pk q)).isSome=true):Fi (cs.map sg) (j4 p):=by
 refine .step _ n1 n2 fun q hq =>?_
 rw[<-xV] at hq
 refine ae.el (J1.mp hq) _ ?_
 rintro q Hq rfl
 refine ae.el (h.at (all q Hq)) _ ?_
 rintro o ho hw
 exact hw
theorem sJ.more {cs:List Str}{rs:List ((Str×Str)×Addr)}{kvs:List (List Key×V)}(h:sJ cs rs kvs){p:Str×Str}(hp:p∈rs.map (·.1))(hn:az kvs (pk p)=none){o:Option Int}(hw:Fi (cs.map sg) (j4 p)):sJ cs rs (kvs++[(pk p,ov o)]):=by
 refine⟨?_,fun k v e =>?_⟩
 ·rw[Jh]
  exact List.nodup_append.mpr ⟨h.nd,by simp,fun x hx y hy e=>iM hn (by have z:y=pk p:=Jg.mp hy;rw[<-z,<-e];exact hx)⟩
 ·rw[<-cM (ov o) hn,iJ] at e
  by_cases hk:k=pk p
  ·rw[if_pos hk] at e
   exact⟨p,o,hk,hp,(Option.some.inj e).symm,hw⟩
  ·rw[if_neg hk] at e;exact h.so k v e
section
variable {P:Program}{w:World}{K:Jb}{mg:Str->Option Value}{base:Heap}{f:Addr}{fd:FuncData}
theorem ba:aO ["_law_codes", "_law_pairs_here", "_law_worths_here", "_law_left", "_law_more", "_law_some", "_law_pair", "_law_told"] ["_law_codes"] (aB (top fz)):=⟨rfl,rfl,rfl,by decide +kernel,rfl,by decide +kernel,by decide +kernel⟩
theorem CP (F:dh K "_law_worths" "_law_worths" (top fz) f fd)(T:Nm mg)(oI:Fn P w K mg base 2 "_law_pairs" ["_law_codes"] (sV K)):bM P w K mg base gU 3 f fd ["_law_codes"] (rW K):=by
 refine F.ok ba (fun vs H Q E h =>?_) (fun dG A outer s H vs Q E hr h =>?_)
 ·obtain⟨l,cs,rfl,_⟩:=h
  rfl
 unfold rW at h
 refine ae.el h _ ?_
 clear h
 rintro l cs rfl hl g q
 have hu:=eY hr
 have fO:=hr.units
 have hle:=g.le
 have small:∀{n:Nat},n<=1000->n<sizeLine:=fun h=>Jy h (by decide)
 have big:∀{n:Nat},n<=5000000->n<sizeLine:=fun h=>Jy h (by decide)
 have bE:jJ (Str.ofString ""):=fun ch hc=>nomatch hc
 refine⟨_,(ah (aI (i:=1) ba.nd rfl (Or.inr rfl) (aY (oI.mono (by decide)) hr rfl (aa (pv 0) ag)))
  (ah (aI (i:=2) ba.nd rfl (Or.inr rfl) (oS hu (fu (aa bb (aa bb ag))) ao))
  (ah (bw (i:=3) ba.nd rfl (Or.inl rfl) rfl (aN (Nc:=["_law_pair"]) (Fc:=[]) (js:=[])) (wa (pv 1)) (aA (i:=0) (n:=1) (by decide)) (fun _ _ _ _ _=>(ai (i:=0) (dX ["_law_pair"]) rfl (Or.inl rfl))) (fun _ _ _ _ _=>(cO (aG (rK K fO) (pv 0) (fu (aa bb (aa bb ag))) (aM _)))) (fun _ _ _ _ _=>(pv 0)))
  (ah (aI (i:=4) ba.nd rfl (Or.inl rfl) dZ)
  (ah (gi PassesOwn.never (cQ (pv 4)) (ah (bw (i:=5) ba.nd rfl (Or.inl rfl) rfl (aN (Nc:=["_law_pair"]) (Fc:=["_law_worths_here", "_law_pairs_here"]) (js:=[2,1])) (fV K (pv 3)) (aA (i:=0) (n:=1) (by decide)) (fun _ _ _ _ _=>(ai (i:=0) (dX ["_law_pair", "_law_worths_here", "_law_pairs_here"]) rfl (Or.inl rfl))) (fun _ _ _ _ _=>(cO (cQ (au (vW K rfl) rfl T.n_all (by rfl) (aa (bC rfl (aN (Nc:=["_law_one"]) (Fc:=["_law_worths_here"]) (js:=[1])) (fV K (cu hu (pv 2) (pv 0) (fun _ _=>rfl))) (aA (i:=0) (n:=1) (by decide)) (fun _ _ _ _ _=>(ai (i:=0) (dX ["_law_one", "_law_worths_here"]) rfl (Or.inl rfl))) (fun _ _ _ _ _=>br) (fun _ _ _ _ _=>(rh (vO hu (pv 0) (pv 1))))) ag))))) (fun _ _ _ _ _=>(pv 0)))
  (ah (dF PassesOwn.never rfl (fV K (pv 5)) (ai (i:=6) ba.nd rfl (Or.inl rfl)) (ah (bw (i:=7) ba.nd rfl (Or.inl rfl) rfl (aN (Nc:=["_law_one"]) (Fc:=["_law_worths_here"]) (js:=[2])) (fV K (cu hu (pv 1) (pv 6) (fun _ _=>rfl))) (aA (i:=0) (n:=1) (by decide)) (fun _ _ _ _ _=>(ai (i:=0) (dX ["_law_one", "_law_worths_here"]) rfl (Or.inl rfl))) (fun _ _ _ _ _=>(cO (aG jU (cu hu (pv 1) (pv 0) (fun _ _=>rfl)) cV (aM _)))) (fun _ _ _ _ _=>(aU dN (cu hu (pv 1) (pv 0) (fun _ _=>rfl)) ao)))
  (ak (jS hu (pv 2) (pv 6) (gr (aG (rK K fO) (pv 7) (dy ag) (aM _)) (au (HF K rfl) rfl T.n_max (by rfl) (aa (pv 7) ag)) cV) rfl))))
  (ah (bw (i:=3) ba.nd rfl (Or.inl rfl) rfl (aN (Nc:=["_law_pair"]) (Fc:=["_law_worths_here"]) (js:=[2])) (fV K (pv 3)) (aA (i:=0) (n:=1) (by decide)) (fun _ _ _ _ _=>(ai (i:=0) (dX ["_law_pair", "_law_worths_here"]) rfl (Or.inl rfl))) (fun _ _ _ _ _=>(cO (fX (cI hu (pv 0) (pv 1))))) (fun _ _ _ _ _=>(pv 0)))
  (ak (aI (i:=4) ba.nd rfl (Or.inl rfl) (iE (rK K fO) (pv 5) (dy ag) (aM _))))))))
  (ak (aK (gr (aG (rK K fO) (pv 3) (dy ag) (aM _)) xJ (pv 2))))))))),?_⟩
 refine⟨_,rfl,l,cs,rfl,hl,g,fun d rs H1 s1 yn BJ pr hn1=>gn ?_⟩
 refine fun wd H2 n2=>⟨by show 2<=sizeLine;decide,fun t H3 n3=>⟨n3.same _ _ n2.at,pk eP,t,rfl,n3.at,fun H4 c4=>gn ?_⟩⟩
 have Cv:=n2.same.trans n3.same
 have Dy:=n3.same _ _ n2.at
 have Hc:H1 wd=none:=n2.nn
 have Dc:H wd=none:=by
  cases e:H wd with
  | none=>rfl
  | some o=>rw[s1 _ _ e] at Hc;cases Hc
 have s4:aw H1 H4:=fun b o e=>by rw[c4.ne (aj e Hc)];exact Cv b o e
 have G0:=s4 _ _ BJ
 have M4:=c4.at
 have M3:∀r∈rs,gA cs H4 r:=fun r hr=>(hn1 r hr).same s4
 have dw:d≠wd:=aj BJ Hc
 dsimp only
 refine cj (te:=dU _ _ _ _ _ _) (fun v H'=>fR fun(p:Addr) (ob:Obj) (zs:List (Addr×(Str×Str)))=>v = .ref p/\(∀b o,b≠d->H4 b=some o->H' b=some o)/\H' d=some (.frz ob (.dT (rs.map lu)))/\H4 p=none/\H' p=some (.lst (refs zs))/\zs.map (·.2)=(rs.map (·.1)).filter (fun x => !decide (x=eP))/\∀z∈zs,bQ H' z) (fun Qn qn =>?_) ?_
 ·refine⟨_,rfl,d,_,rfl,G0,fun ob =>?_⟩
  obtain⟨H5,c5⟩:∃H5,lj H4 d (.frz ob (.dT (rs.map lu))) H5:=⟨_,⟨rfl⟩⟩
  rw[<-c5.eq]
  refine bF (N:=rs.length) (fun i ys H'=>∃zs:List (Addr×(Str×Str)),ys=refs zs/\aw H5 H'/\zs.map (·.2)=((rs.take i).map (·.1)).filter (fun x => !decide (x=eP))/\∀z∈zs,bQ H' z) ⟨[],rfl,aw.refl _,rfl,fun z h=>nomatch h⟩ ?_ ?_
  ·intro i ys H6 Ny hi hz_ ny
   refine ae.el hz_ _ ?_
   clear hz_
   rintro zs rfl s6 ez hz
   have zl:zs.length<=i:=by
    have:=congrArg Ur ez
    rw[Ja] at this
    rw[this]
    refine Js (U5 _ _) ?_
    rw[Ja,Jr];omega
   have rl:=pr.le
   refine⟨⟨s6 _ _ c5.at,by rw[Ja];exact hi⟩,big (by rw[Ja];omega),?_⟩
   rintro v H7 ⟨rfl,kv,b,hkv,rfl,hb⟩
   rw[Jj,Jf hi] at hkv
   cases hkv
   have aZ:=pr.ok _ (Uj (Jt hi))
   have cC:=aH hi
   generalize rs[i]=r at hb aZ cC
   obtain⟨⟨x,y⟩,ra⟩:=r
   have hb:bQ H7 (b,(x,y)):=hb
   have bn:jJ x/\jJ y:=by
    rcases aZ with e|⟨⟨h1,h2⟩,_⟩
    ·injection e with e1 e2
     exact⟨by rw[e1];exact bE,by rw[e2];exact bE⟩
    ·exact⟨h1.bin g,h2.bin g⟩
   refine gn ?_
   refine⟨_,rfl,by show 2<=sizeLine;decide,fun t8 H8 n8 =>.inr ⟨_,_,FY (hb.same n8.same),FY (z:=(t8,eP)) n8.at,M6 bn.1 bn.2,M6 bE bE,_,rfl,?_⟩⟩
   rw[Lx]
   have GV:((rs.take (i+1)).map (·.1)).filter (fun x => !decide (x=eP))=((rs.take i).map (·.1)).filter (fun x => !decide (x=eP))++(if (x,y)=eP then [] else [(x,y)]):=by
    rw[cC,Jh,Yp]
    congr 1
    show List.filter _ [(x,y)]=_
    by_cases h:(x,y)=eP
    ·rw[if_pos h,h];rfl
    ·rw[if_neg h,Uw,if_pos (by rw[decide_eq_false h];rfl),Yq]
   by_cases h:(x,y)=eP
   ·rw[decide_eq_true h]
    rw[if_pos h,Uh] at GV
    exact bA (ny _ _ ⟨zs,rfl,s6.trans n8.same,by rw[GV];exact ez,fun z hz'=>(hz z hz').same n8.same⟩)
   ·rw[decide_eq_false h]
    rw[if_neg h] at GV
    refine e7 ⟨_,rfl,ny _ _ ⟨zs++[(b,(x,y))],by unfold refs;rw[Jh];rfl,s6.trans n8.same,by rw[GV,Jh,ez];rfl,fun z hz' =>?_⟩⟩
    rcases Ji.mp hz' with hz'|hz'
    ·exact(hz z hz').same n8.same
    ·rw[Jg.mp hz'];exact hb.same n8.same
  ·intro ys H6
   refine ae.go ?_
   rintro zs rfl s6 ez hz
   rw[Jz] at ez
   refine⟨⟨s6 _ _ c5.at,by rw[Ja];exact Jd _⟩,fun p hp=>qn _ _ ⟨p,ob,zs,rfl,fun b o hb e =>?_,?_,?_,aJ,ez,fun z hz'=>(hz z hz').same (bS hp _)⟩⟩
   ·exact bS hp _ _ _ (s6 _ _ (by rw[c5.ne hb];exact e))
   ·exact bS hp _ _ _ (s6 _ _ c5.at)
   ·cases e:H4 p with
    | none=>rfl
    | some o=>
     by_cases hb:p=d
     ·rw[hb,s6 _ _ c5.at] at hp;cases hp
     ·rw[s6 _ _ (by rw[c5.ne hb];exact e)] at hp;cases hp
 intro v H5
 refine ae.go ?_
 rintro lp0 ob zs0 rfl k5 ya hl0 hlp5 ez0 FN
 refine gn (gn ?_)
 have N1:H5 wd=some (.dT [(pk eP,.int 0)]):=k5 _ _ (Ne.symm dw) M4
 have s5:∀b o,b≠d->H b=some o->H5 b=some o:=fun b o hb e=>k5 b o hb (s4 b o (s1 b o e))
 have OJ:aw H H5:=fun b o e=>s5 b o (aj e yn) e
 have Oi:∀r∈rs,gA cs H5 r:=fun r hr=>by
  obtain⟨zs,h1,h2,h3⟩:=M3 r hr
  exact⟨zs,k5 _ _ (fun z=>by rw[z,G0] at h1;cases h1) h1,h2,fun z hz=>k5 _ _ (fun e=>by have:=h3 z hz;unfold bQ at this;rw[e,G0] at this;cases this) (h3 z hz)⟩
 clear k5 hl0 M3 G0 M4 s4 hn1 BJ
 refine gn ?_
 rw[show(List.set _ _ _:L2.St)=[some (.ref l),some (.ref d),some (.ref wd),some (.ref lp0),some (.bl true),none,none,none] from rfl]
 have DW:∀{p:Str×Str},p∈rs.map (·.1)->p≠eP->fQ cs p/\Rc (cs.map sg) (j4 p)/\sg p.1≠[]/\sg p.2≠[]:=fun{p} hp ne=>by
  obtain⟨h1,h2⟩:=(pr.ok p hp).resolve_left ne
  have l1:=(h1.1.len g).1
  have l2:=(h1.2.len g).1
  have e1:p.1.length=(sg p.1).length:=str_len _
  have e2:p.2.length=(sg p.2).length:=str_len _
  exact⟨h1,h2,fun z=>by rw[z] at e1;simp at e1;omega,fun z=>by rw[z] at e2;simp at e2;omega⟩
 dsimp only
 let J:Nat->L2.St->Hp->Prop:=fun m σ H'=>om fun(lp:Addr) (zs:List (Addr×(Str×Str))) (kvs:List (List Key×V)) (more:Bool)=>fR fun(x5 x6 x7:Option V) =>σ=[some (.ref l),some (.ref d),some (.ref wd),some (.ref lp),some (.bl more),x5,x6,x7]/\m=2*zs.length+(if more=true then 1 else 0)/\aw H H'/\H' d=some (.frz ob (.dT (rs.map lu)))/\(∀r∈rs,gA cs H' r)/\H' lp=some (.lst (refs zs))/\(∀z∈zs,bQ H' z)/\(zs.map (·.2)).Nodup/\(∀z∈zs,z.2∈rs.map (·.1)/\z.2≠eP/\az kvs (pk z.2)=none)/\H' wd=some (.dT kvs)/\sJ cs rs kvs/\(∀p∈rs.map (·.1),p∈zs.map (·.2)∨(az kvs (pk p)).isSome=true)/\(more=false->∀z∈zs,∃q∈jI cs z.2,az kvs (pk q)=none)
 refine cb (t:=ig _ _) (fun σ H'=>fR fun(lp:Addr) (zs:List (Addr×(Str×Str))) (kvs:List (List Key×V))=>fR fun(x5 x6 x7:Option V) =>σ=[some (.ref l),some (.ref d),some (.ref wd),some (.ref lp),some (.bl false),x5,x6,x7]/\aw H H'/\H' lp=some (.lst (refs zs))/\(∀z∈zs,bQ H' z)/\(∀z∈zs,z.2∈rs.map (·.1)/\z.2≠eP)/\H' wd=some (.dT kvs)/\sJ cs rs kvs/\(∀p∈rs.map (·.1),p∈zs.map (·.2)∨(az kvs (pk p)).isSome=true)/\∀z∈zs,∃q∈jI cs z.2,az kvs (pk q)=none) (fun Nx nx =>?_) ?_
 ·have v0:∀k v,az [(pk eP,V.int 0)] k=some v->k=pk eP/\v = .int 0:=fun k v e=>by
   by_cases h:k=pk eP
   ·subst h
    exact⟨rfl,by unfold az at e;simpa using e.symm⟩
   ·unfold az at e
    rw[List.find?_cons_of_neg (by rw[decide_eq_true_iff];exact fun z=>h z.symm)] at e
    cases e
  have E3:∀p,p∈zs0.map (·.2)↔p∈rs.map (·.1)/\p≠eP:=fun p=>by
   rw[ez0,Yv]
   refine and_congr Iff.rfl ⟨fun h z =>?_,fun h =>?_⟩
   ·rw[decide_eq_true z] at h;cases h
   ·rw[decide_eq_false h];rfl
  refine iG J ⟨_,lp0,zs0,[(pk eP,.int 0)],true,none,none,none,rfl,rfl,OJ,ya,Oi,hlp5,FN,by rw[ez0];exact List.Nodup.sublist List.filter_sublist pr.nd,fun z hz =>?_,N1,⟨by simp,fun k v e =>?_⟩,fun p hp =>?_,(fun h=>nomatch h)⟩ ?_
  ·obtain⟨h1,h2⟩:=(E3 _).mp (Uj hz)
   refine⟨h1,h2,?_⟩
   cases hv:az [(pk eP,V.int 0)] (pk z.2) with
   | none=>rfl
   | some v=>exact absurd (kO (v0 _ _ hv).1) h2
  ·obtain⟨rfl,rfl⟩:=v0 k v e
   exact⟨eP,some 0,rfl,pr.fin,rfl,.fin⟩
  ·by_cases h:p=eP
   ·rw[h];exact .inr (by unfold az;simp)
   ·exact .inl ((E3 p).mpr ⟨hp,h⟩)
  intro m σ H6
  refine ae.go ?_
  rintro lp zs kvs more x5 x6 x7 rfl rfl s6 Aq hn6 hlp6 hz6 znd zk qr wo cov fixp
  have zl:zs.length<=40000:=by
   have:=cF (m:=rs.map (·.1)) znd fun p hp=>by
    refine ae.el (J1.mp hp) _ ?_
    rintro z hz rfl
    exact(zk z hz).1
   rw[Ja,Ja] at this
   exact Js this pr.le
  cases more with
  | false=>exact⟨_,rfl,_,rfl,bA (nx _ _ ⟨lp,zs,kvs,x5,x6,x7,rfl,s6,hlp6,hz6,fun z hz=>⟨(zk z hz).1,(zk z hz).2.1⟩,qr,wo,cov,fixp rfl⟩)⟩
  | true=>
   refine⟨_,rfl,_,rfl,e7 ⟨fun σ' H'=>∃m',m'<2*zs.length+1/\J m' σ' H',fun _ _ h=>h,?_⟩⟩
   have fW:∀{ws:List (Addr×(Str×Str))} {i:Nat} (hi:i<ws.length),(refs ws)[i]? = some (.ref ws[i].1):=fun hi=>by unfold refs;rw[Jj,Jf hi];rfl
   obtain⟨Fz,hFz⟩:∃Fz:Addr×(Str×Str)->Bool,Fz=fun z=>(jI cs z.2).all fun q=>(az kvs (pk q)).isSome:=⟨_,rfl⟩
   refine cj (te:=dU _ _ _ _ _ _) (fun v H'=>∃sp,v = .ref sp/\aw H6 H'/\H6 sp=none/\H' sp=some (.lst (refs (zs.filter Fz)))) (fun Qn qn =>?_) ?_
   ·refine⟨_,rfl,lp,rfl,⟨_,aE.of hlp6⟩,?_⟩
    refine bF (N:=zs.length) (fun i ys H'=>ys=refs ((zs.take i).filter Fz)/\aw H6 H') ⟨rfl,aw.refl _⟩ ?_ ?_
    ·rintro i ys H7 Ny hi ⟨rfl,s7⟩ ny
     refine⟨⟨_,_,aE.of (s7 _ _ hlp6),fW hi⟩,big ?_,?_⟩
     ·unfold refs
      rw[Ja]
      have h1:=U5 Fz (zs.take i)
      rw[Jr] at h1
      omega
     rintro y H8 ⟨rfl,hy⟩
     have e:=hy _ (aE.of (s7 _ _ hlp6))
     rw[fW hi] at e;cases e
     have Dz:=(hz6 _ (Jt hi)).same s7
     have MX:=(zk _ (Jt hi)).1
     have cC:=aH hi
     generalize zs[i]=z at Dz MX cC
     refine ae.el (xW pr (s7 _ _ Aq) (fun r hr=>(hn6 r hr).same s7) (b:=z.1) (p:=z.2) Dz MX) _ ?_
     rintro r ns hg lF en AE
     have nl:ns.length<=16:=by
      have:=congrArg Ur en
      rw[Ja] at this
      rw[this];exact rE hle _
     refine gn ⟨_,rfl,_,rfl,d,.ref r,rfl,hg,r,rfl,⟨_,aE.of lF⟩,?_⟩
     refine bF (N:=ns.length) (fun j ys H'=>H'=H8/\ys=((ns.take j).map fun q=>(az kvs (pk q.2)).isSome).map V.bl) ⟨rfl,rfl⟩ ?_ ?_
     ·rintro j ys H9 Nz hj ⟨rfl,rfl⟩ nz
      refine⟨⟨_,_,aE.of lF,fW hj⟩,small (by rw[Ja,Ja,Jr];omega),?_⟩
      rintro y H10 ⟨rfl,hy⟩
      have e:=hy _ (aE.of lF)
      rw[fW hj] at e;cases e
      refine gn ⟨_,rfl,_,rfl,wd,_,rfl,dR.t (k:=pk ns[j].2) (s7 _ _ qr) (AE _ (Jt hj)),nz _ _ ⟨rfl,?_⟩⟩
      rw[aH hj,Jh,Jh];rfl
     ·rintro ys H9 ⟨rfl,rfl⟩
      refine⟨⟨_,aE.of lF,by rw[Ja];exact Jd _⟩,fun p9 qq =>?_⟩
      rw[Jz]
      obtain⟨H10,n10⟩:∃H10,dz H9 p9 (.lst ((ns.map fun q=>(az kvs (pk q.2)).isSome).map V.bl)) H10:=⟨_,qq,rfl⟩
      rw[<-n10.eq]
      refine⟨p9,_,rfl,aE.of n10.at,_,rfl,?_⟩
      have eF:(ns.map fun q=>(az kvs (pk q.2)).isSome).all id=Fz z:=by
       rw[hFz]
       show _=(jI cs z.2).all _
       rw[<-en,List.all_map,List.all_map];rfl
      rw[eF]
      have ef:(zs.take (i+1)).filter Fz=(zs.take i).filter Fz++(if Fz z=true then [z] else []):=by
       rw[cC,Yp]
       congr 1
       by_cases h:Fz z=true
       ·rw[if_pos h,Uw,if_pos h,Yq]
       ·rw[if_neg h,Uw,if_neg h,Yq]
      refine ee (fun c=>⟨_,rfl,ny _ _ ⟨?_,s7.trans n10.same⟩⟩) (fun c=>ny _ _ ⟨?_,s7.trans n10.same⟩)
      ·rw[ef,if_pos c];unfold refs;rw[Jh];rfl
      ·rw[ef,if_neg c,Uh]
    ·rintro ys H7 ⟨rfl,s7⟩
     rw[Jz]
     refine⟨⟨_,aE.of (s7 _ _ hlp6),by unfold refs;rw[Ja];exact Jd _⟩,fun p hp=>qn _ _ ⟨p,rfl,s7.trans (bS hp _),?_,aJ⟩⟩
     cases e:H6 p with
     | none=>rfl
     | some o=>rw[s7 _ _ e] at hp;cases hp
   intro v H7
   refine ae.go ?_
   rintro sp rfl s67 oH hsp7
   refine gn ?_
   obtain⟨ms,hms⟩:∃ms,ms=zs.filter Fz:=⟨_,rfl⟩
   rw[<-hms] at hsp7
   have zo:∀z∈ms,z∈zs/\Fz z=true:=fun z hz=>by rw[hms] at hz;exact Yv.mp hz
   have ml:ms.length<=zs.length:=by rw[hms];exact U5 _ _
   have O0:(ms.map (·.2)).Nodup:=by rw[hms];exact List.Nodup.sublist (List.Sublist.map _ List.filter_sublist) znd
   have s7:=s6.trans s67
   have yq:=s67 _ _ Aq
   have A0:=s67 _ _ qr
   have LX:∀r∈rs,gA cs H7 r:=fun r hr=>(hn6 r hr).same s67
   have Na:∀z∈zs,bQ H7 z:=fun z hz=>(hz6 z hz).same s67
   have Kf:=s67 _ _ hlp6
   dsimp only
   refine cb (t:=lB _ _ _) (fun σ H'=>fR fun(x6 x7:Option V) (cG:List (List Key×V)) =>σ=[some (.ref l),some (.ref d),some (.ref wd),some (.ref lp),some (.bl true),some (.ref sp),x6,x7]/\(∀b o,b≠wd->H7 b=some o->H' b=some o)/\H' wd=some (.dT cG)/\sJ cs rs cG/\(∀p,(az kvs (pk p)).isSome=true->(az cG (pk p)).isSome=true)/\(∀z∈ms,(az cG (pk z.2)).isSome=true)/\∀p,(az cG (pk p)).isSome=true->(az kvs (pk p)).isSome=true∨p∈ms.map (·.2)) (fun Nx2 nx2 =>?_) ?_
   ·refine⟨_,rfl,sp,rfl,⟨_,aE.of hsp7⟩,?_⟩
    refine eJ (N:=ms.length) (fun i σ H'=>fR fun(x6 x7:Option V) (cG:List (List Key×V)) =>σ=[some (.ref l),some (.ref d),some (.ref wd),some (.ref lp),some (.bl true),some (.ref sp),x6,x7]/\(∀b o,b≠wd->H7 b=some o->H' b=some o)/\H' wd=some (.dT cG)/\sJ cs rs cG/\(∀p,(az kvs (pk p)).isSome=true->(az cG (pk p)).isSome=true)/\(∀z∈ms.take i,(az cG (pk z.2)).isSome=true)/\∀p,(az cG (pk p)).isSome=true->(az kvs (pk p)).isSome=true∨p∈(ms.take i).map (·.2)) ⟨_,_,kvs,rfl,(fun b o _ e=>e),A0,wo,(fun p h=>h),(fun z h=>nomatch h),fun p h =>.inl h⟩ ?_ ?_
    ·intro i σ H8 hi
     refine ae.go ?_
     rintro x6 x7 cG rfl k8 yu wo8 m8 d8 b8
     have FJ:sp≠wd:=fun z=>by rw[z,qr] at oH;cases oH
     have FT:=k8 _ _ FJ hsp7
     refine⟨⟨_,_,aE.of FT,fW hi⟩,?_⟩
     rintro v H9 ⟨rfl,hv⟩
     have e:=hv _ (aE.of FT)
     rw[fW hi] at e;cases e
     refine gn ?_
     have pK:∀{y:Addr×(Str×Str)},bQ H7 y->bQ H9 y:=fun{y} h=>k8 _ _ (fun e=>by have h:=h;unfold bQ at h;rw[e,A0] at h;cases h) h
     have N2:∀r∈rs,gA cs H9 r:=fun r hr=>by
      obtain⟨ys,h1,h2,h3⟩:=LX r hr
      exact⟨ys,k8 _ _ (fun e=>by rw[e,A0] at h1;cases h1) h1,h2,fun y hy=>pK (h3 y hy)⟩
     have Dp:=k8 _ _ dw yq
     obtain⟨AD,hF⟩:=zo _ (Jt hi)
     have cC:=aH hi
     have qX:ms[i].2∉(ms.take i).map (·.2):=fun h=>by
      refine ae.el (J1.mp h) _ ?_
      rintro y hy e
      refine ae.el (U2.mp hy) _ ?_
      rintro j hj e'
      rw[Jr] at hj
      rw[List.getElem_take] at e'
      have h1:=U3.mp O0
      exact Ux.mp h1 j i (by rw[Ja];omega) (by rw[Ja];omega) (by omega) (by rw[Yf,Yf,e'];exact e)
     generalize ms[i]=z at AD hF cC qX
     refine ae.el (zk z AD) _ ?_
     rintro zk1 zk2 zk3
     have Dd:=pK (Na z AD)
     refine ae.el (xW pr Dp N2 (b:=z.1) (p:=z.2) Dd zk1) _ ?_
     rintro r ns hg lF en AE
     have nl:ns.length<=16:=by
      have:=congrArg Ur en
      rw[Ja] at this
      rw[this];exact rE hle _
     have dM:∀q∈jI cs z.2,(az cG (pk q)).isSome=true:=fun q hq=>by
      rw[hFz] at hF
      exact m8 q (Y8.mp hF q hq)
     have IL:az cG (pk z.2)=none:=by
      cases hv:az cG (pk z.2) with
      | none=>rfl
      | some v=>
       rcases b8 z.2 (by rw[hv];rfl) with h|h
       ·rw[zk3] at h;cases h
       ·exact absurd h qX
     dsimp only
     refine cj (te:=dU _ _ _ _ _ _) (fun v H'=>∃tp,v = .ref tp/\∃L:List Int,L.length<=16/\dz H9 tp (.lst (L.map V.int)) H') (fun Qn qn =>?_) ?_
     ·refine⟨_,rfl,_,rfl,d,.ref r,rfl,hg,r,rfl,⟨_,aE.of lF⟩,?_⟩
      refine cX (N:=ns.length) (fun j ys H'=>H'=H9/\∃L:List Int,ys=L.map V.int/\L.length<=j) ⟨rfl,[],rfl,Jd _⟩ ?_ ?_
      ·rintro j ys H10 Ny hj ⟨rfl,L,rfl,Ll⟩ ny
       refine⟨⟨_,_,aE.of lF,fW hj⟩,small (by rw[Ja];omega),?_⟩
       rintro y uQ ⟨rfl,hy⟩
       have e:=hy _ (aE.of lF)
       rw[fW hj] at e;cases e
       have hq:=AE _ (Jt hj)
       have Hq:ns[j].2∈jI cs z.2:=by rw[<-en];exact Uj (Jt hj)
       generalize ns[j]=y at hq Hq
       refine ae.el (wo8.at (dM _ Hq)) _ ?_
       rintro o ho _
       have yW:=dR.t (k:=pk y.2) yu hq
       rw[ho] at yW
       cases o with
       | none=>exact gn ⟨_,rfl,_,rfl,wd,_,rfl,yW,.inl ⟨rfl,_,rfl,bA (ny _ _ ⟨rfl,L,rfl,by omega⟩)⟩⟩
       | some n=>exact gn ⟨_,rfl,_,rfl,wd,_,rfl,yW,.inl ⟨rfl,_,rfl,e7 ⟨_,rfl,_,rfl,wd,_,rfl,yW,.inl ⟨_,_,rfl,rfl,ny _ _ ⟨rfl,L++[n+1],by rw[Jh];rfl,by rw[Jc];exact Wh Ll⟩⟩⟩⟩⟩
      ·rintro ys H10 ⟨rfl,L,rfl,Ll⟩
       exact⟨⟨_,aE.of lF,by unfold refs;rw[Ja];exact Jd _⟩,fun tp uQ n11=>qn _ _ ⟨tp,rfl,L,by omega,n11⟩⟩
     intro v H10
     refine ae.go ?_
     rintro tp rfl L Ll n10
     refine gn ?_
     have fin:∀{o:Option Int} {uQ:Hp},aw H10 uQ->∃H12,iW uQ wd (.ref z.1) (ov o) H12/\(∀b o,b≠wd->H7 b=some o->H12 b=some o)/\H12 wd=some (.dT (cG++[(pk z.2,ov o)]))/\sJ cs rs (cG++[(pk z.2,ov o)])/\(∀p,(az kvs (pk p)).isSome=true->(az (cG++[(pk z.2,ov o)]) (pk p)).isSome=true)/\(∀y∈ms.take (i+1),(az (cG++[(pk z.2,ov o)]) (pk y.2)).isSome=true)/\∀p,(az (cG++[(pk z.2,ov o)]) (pk p)).isSome=true->(az kvs (pk p)).isSome=true∨p∈(ms.take (i+1)).map (·.2):=fun{o uQ} s11=>by
      refine ae.el (DW zk1 zk2) _ ?_
      rintro _ _ e1 e2
      have hw:=wo8.put e1 e2 dM
      have hs:=n10.same.trans s11
      have val:∀p,az (cG++[(pk z.2,ov o)]) (pk p)=if pk p=pk z.2 then some (ov o) else az cG (pk p):=fun p=>by rw[<-cM (ov o) IL,iJ]
      refine⟨_,iW.t (k:=pk z.2) (hs _ _ yu) (hs _ _ Dd) (big (Js (wo8.le pr) (by decide))),?_⟩
      rw[cM _ IL]
      refine⟨fun b o' hb e=>by rw[aq hb];exact hs _ _ (k8 b o' hb e),aJ,wo8.more zk1 IL hw,fun p hp =>?_,fun y hy =>?_,fun p hp =>?_⟩
      ·rw[val];split
       ·rfl
       ·exact m8 p hp
      ·rw[val];split
       ·rfl
       ·rename_i h
        rw[cC] at hy
        rcases Ji.mp hy with hy|hy
        ·exact d8 y hy
        ·exact absurd (by rw[Jg.mp hy]) h
      ·rw[val] at hp
       rw[cC,Jh]
       split at hp
       ·rename_i h
        exact .inr (Jk _ (Jg.mpr (kO h)))
       ·exact(b8 p hp).imp id fun h=>Ud _ h
     refine⟨_,rfl,by show 0<=sizeLine;decide,fun p11 uQ n11 =>.inr ⟨_,_,Den.list (aE.of (n11.same _ _ n10.at)) (Den.ints L),Den.list (aE.of n11.at) (by unfold aL;rfl),(sM (n:=1) L).shaped (by decide),gK,_,rfl,?_⟩⟩
     rw[hX,List.isEmpty_map]
     by_cases hLe:L=[]
     ·have e:(!L.isEmpty)=false:=by rw[hLe];rfl
      rw[e]
      refine ae.el (fin (o:=none) n11.same) _ ?_
      rintro H12 hput f1 f2 f3 f4 f5 f6
      exact bA ⟨_,rfl,_,rfl,wd,H12,rfl,hput,_,_,_,rfl,f1,f2,f3,f4,f5,f6⟩
     ·have e:(!L.isEmpty)=true:=by cases L with|nil=>exact absurd rfl hLe|cons _ _=>rfl
      rw[e]
      refine e7 ⟨_,rfl,tp,L,rfl,aE.of (n11.same _ _ n10.at),hLe,fun M hM hmx =>?_⟩
      refine ae.el (fin (o:=some M) n11.same) _ ?_
      rintro H12 hput f1 f2 f3 f4 f5 f6
      exact⟨_,rfl,_,rfl,wd,H12,rfl,hput,_,_,_,rfl,f1,f2,f3,f4,f5,f6⟩
    ·intro σ H8
     refine ae.go ?_
     rintro x6 x7 cG rfl k8 yu wo8 m8 d8 b8
     rw[Jz] at d8 b8
     have FJ:sp≠wd:=fun z=>by rw[z,qr] at oH;cases oH
     exact⟨⟨_,aE.of (k8 _ _ FJ hsp7),by unfold refs;rw[Ja];exact Jd _⟩,nx2 _ _ ⟨x6,x7,cG,rfl,k8,yu,wo8,m8,d8,b8⟩⟩
   intro σ H8
   refine ae.go ?_
   rintro x6 x7 cG rfl k8 yu wo8 m8 d8 b8
   have FJ:sp≠wd:=fun z=>by rw[z,qr] at oH;cases oH
   have O6:lp≠wd:=fun z=>by rw[z,qr] at hlp6;cases hlp6
   have m6:=k8 _ _ O6 Kf
   have pK:∀{y:Addr×(Str×Str)},bQ H7 y->bQ H8 y:=fun{y} h=>k8 _ _ (fun e=>by have h:=h;unfold bQ at h;rw[e,A0] at h;cases h) h
   have Lc:∀z∈zs,bQ H8 z:=fun z hz=>pK (Na z hz)
   have s8:aw H H8:=fun b o e=>k8 _ _ (aj e Dc) (s7 b o e)
   have PH:∀r∈rs,gA cs H8 r:=fun r hr=>by
    obtain⟨ys,h1,h2,h3⟩:=LX r hr
    exact⟨ys,k8 _ _ (fun e=>by rw[e,A0] at h1;cases h1) h1,h2,fun y hy=>pK (h3 y hy)⟩
   obtain⟨G,hG⟩:∃G:Addr×(Str×Str)->Bool,G=fun z => !(az cG (pk z.2)).isSome:=⟨_,rfl⟩
   refine cj (te:=dU _ _ _ _ _ _) (fun v H'=>∃p,v = .ref p/\dz H8 p (.lst (refs (zs.filter G))) H') (fun Qn qn =>?_) ?_
   ·refine⟨_,rfl,lp,rfl,⟨_,aE.of m6⟩,?_⟩
    refine cX (N:=zs.length) (fun i ys H'=>H'=H8/\ys=refs ((zs.take i).filter G)) ⟨rfl,rfl⟩ ?_ ?_
    ·rintro i ys H9 Ny hi ⟨rfl,rfl⟩ ny
     refine⟨⟨_,_,aE.of m6,fW hi⟩,big ?_,?_⟩
     ·unfold refs
      rw[Ja]
      have h1:=U5 G (zs.take i)
      rw[Jr] at h1
      omega
     rintro y H10 ⟨rfl,hy⟩
     have e:=hy _ (aE.of m6)
     rw[fW hi] at e;cases e
     have Dz:=Lc _ (Jt hi)
     have cC:=aH hi
     generalize zs[i]=z at Dz cC
     refine gn ⟨_,rfl,_,rfl,wd,_,rfl,dR.t (k:=pk z.2) yu Dz,_,rfl,?_⟩
     have eG:(!(az cG (pk z.2)).isSome)=G z:=by rw[hG]
     rw[eG]
     have ef:(zs.take (i+1)).filter G=(zs.take i).filter G++(if G z=true then [z] else []):=by
      rw[cC,Yp]
      congr 1
      by_cases h:G z=true
      ·rw[if_pos h,Uw,if_pos h,Yq]
      ·rw[if_neg h,Uw,if_neg h,Yq]
     refine ee (fun c=>⟨_,rfl,ny _ _ ⟨rfl,?_⟩⟩) (fun c=>ny _ _ ⟨rfl,?_⟩)
     ·rw[ef,if_pos c];unfold refs;rw[Jh];rfl
     ·rw[ef,if_neg c,Uh]
    ·rintro ys H9 ⟨rfl,rfl⟩
     rw[Jz]
     exact⟨⟨_,aE.of m6,by unfold refs;rw[Ja];exact Jd _⟩,fun p H10 n10=>qn _ _ ⟨p,rfl,n10⟩⟩
   intro v H9
   refine ae.go ?_
   rintro lp' rfl n9
   refine gn ?_
   have Ij:=n9.same _ _ (k8 _ _ FJ hsp7)
   have Le:∀z∈ms,jJ z.2.1/\jJ z.2.2:=fun z hz=>by
    refine ae.el (zk z (zo z hz).1) _ ?_
    rintro h1 h2 _
    obtain⟨h3,_⟩:=DW h1 h2
    exact⟨h3.1.bin g,h3.2.bin g⟩
   have qa:∀z,z∈zs.filter G↔z∈zs/\az cG (pk z.2)=none:=fun z=>by
    rw[Yv,hG]
    refine and_congr Iff.rfl ?_
    show(!(az cG (pk z.2)).isSome)=true↔_
    cases az cG (pk z.2) with
    | none=>exact⟨fun _=>rfl,fun _=>rfl⟩
    | some v=>exact⟨(fun h=>nomatch h),fun h=>nomatch h⟩
   refine⟨_,rfl,by show 0<=sizeLine;decide,fun p10 H10 n10 =>.inr ⟨_,_,Den.list (aE.of (n10.same _ _ Ij)) (xh fun z hz=>((Lc z (zo z hz).1).same n9.same).same n10.same),Den.list (aE.of n10.at) (by unfold aL;rfl),HZ Le,gK,?_⟩⟩
   rw[hX,List.isEmpty_map]
   have xm:=n9.same.trans n10.same
   have Qe:=U5 G zs
   refine⟨2*(zs.filter G).length+(if (!ms.isEmpty)=true then 1 else 0),?_,lp',zs.filter G,cG, !ms.isEmpty,_,_,_,rfl,rfl,s8.trans xm,xm _ _ (k8 _ _ dw yq),fun r hr=>(PH r hr).same xm,n10.same _ _ n9.at,fun z hz=>(Lc z ((qa z).mp hz).1).same xm,List.Nodup.sublist (List.Sublist.map _ List.filter_sublist) znd,fun z hz =>?_,xm _ _ yu,wo8,fun p hp =>?_,fun hm z hz =>?_⟩
   ·cases hmm:ms with
    | nil=>simp;omega
    | cons y ys=>
     have hy:y∈ms:=by rw[hmm];exact Jn
     have:(zs.filter G).length<zs.length:=by
      refine List.length_filter_lt_length_iff_exists.mpr ⟨y,(zo y hy).1,?_⟩
      rw[hG]
      show ¬(!(az cG (pk y.2)).isSome)=true
      rw[d8 y hy];decide
     show 2*_+1<_
     omega
   ·obtain⟨h1,h2⟩:=(qa z).mp hz
    exact⟨(zk z h1).1,(zk z h1).2.1,h2⟩
   ·rcases cov p hp with h|h
    ·refine ae.el (J1.mp h) _ ?_
     rintro z hz rfl
     cases hv:az cG (pk z.2) with
     | none=>exact .inl (Uj ((qa z).mpr ⟨hz,hv⟩))
     | some v=>exact .inr rfl
    ·exact .inr (m8 p h)
   ·have Md:ms=[]:=by
     cases hmm:ms with
     | nil=>rfl
     | cons y ys=>rw[hmm] at hm;cases hm
    obtain⟨h1,h2⟩:=(qa z).mp hz
    have hF:¬Fz z=true:=fun h=>by
     have:z∈ms:=by rw[hms];exact Yv.mpr ⟨h1,h⟩
     rw[Md] at this;cases this
    rw[hFz] at hF
    have hF:¬ ∀q∈jI cs z.2,(az kvs (pk q)).isSome=true:=fun h=>hF (Y8.mpr h)
    refine Classical.byContradiction fun og=>hF fun q hq =>?_
    refine Classical.byContradiction fun hn'=>og ⟨q,hq,?_⟩
    cases hv:az cG (pk q) with
    | none=>rfl
    | some v=>
     rcases b8 q (by rw[hv];rfl) with h|h
     ·exact absurd h hn'
     ·rw[Md] at h;cases h
 intro σ H6
 refine ae.go ?_
 rintro lp zs kvs x5 x6 x7 rfl s6 hlp6 hz6 zk qr wo cov fixp
 have rR:∀z∈zs,jJ z.2.1/\jJ z.2.2:=fun z hz=>by
  obtain⟨h1,h2⟩:=zk z hz
  obtain⟨h3,_⟩:=DW h1 h2
  exact⟨h3.1.bin g,h3.2.bin g⟩
 refine⟨_,rfl,by show 0<=sizeLine;decide,fun p7 H7 n7 =>.inr ⟨_,_,Den.list (aE.of (n7.same _ _ hlp6)) (xh fun z hz=>(hz6 z hz).same n7.same),Den.list (aE.of n7.at) (by unfold aL;rfl),HZ rR,gK,_,rfl,?_⟩⟩
 rw[hX,List.isEmpty_map]
 have s7:=s6.trans n7.same
 cases zs with
 | cons z zs'=>
  refine e7 (fun e8 H8 n8=>q _ _ (s7.trans n8.same) ⟨e8,rfl,.inl ⟨.inl ⟨[],.inl n8.at,rfl⟩,?_⟩⟩)
  have DD:∀{sp:Sg×Sg},Fi (cs.map sg) sp->∀y∈z::zs',j4 y.2=sp->False:=fun{sp} h=>by
   induction h with
   | fin=>
    intro y hy e
    obtain⟨h1,h2⟩:=zk y hy
    refine ae.el (DW h1 h2) _ ?_
    rintro _ _ h3 _
    injection e with e1 _
    exact h3 e1
   | step p h1 h2 h ih=>
    intro y hy e
    refine ae.el (fixp y hy) _ ?_
    rintro q' hq' hv
    have hk:=pr.cl _ (zk y hy).1 q' hq'
    have fM:=(cov q' hk).resolve_right (by rw[hv];exact fun z=>nomatch z)
    refine ae.el (J1.mp fM) _ ?_
    rintro y' Iy e'
    refine ih (j4 q') ?_ y' Iy (by rw[e'])
    rw[<-e,<-xV];exact Uj hq'
  obtain⟨h1,h2⟩:=zk z Jn
  exact⟨j4 z.2,(DW h1 h2).2.1,fun h=>DD h z Jn rfl⟩
 | nil=>
  have all:∀p∈rs.map (·.1),∃o,az kvs (pk p)=some (ov o)/\Fi (cs.map sg) (j4 p):=fun p hp=>wo.at ((cov p hp).resolve_left fun z=>nomatch z)
  refine bA ⟨_,rfl,q _ _ s7 ⟨wd,rfl,.inr ⟨kvs,n7.same _ _ qr,fun z =>?_,fun p hp =>?_⟩⟩⟩
  ·refine ae.el (all eP pr.fin) _ ?_
   rintro o ho _
   rw[z] at ho;cases ho
  ·refine Rc.fn (fun k d' c h1 h2 hd' hc =>?_) hp
   refine ae.el (J1.mp hd') _ ?_
   rintro d'' hd'' rfl
   refine ae.el (J1.mp hc) _ ?_
   rintro c' zH rfl
   refine ae.el (all (⟨((sg d'').drop k).toArray⟩,c') (pr.ini d'' hd'' k h1 h2 _ (by show((sg d'').drop k).toArray.toList=_;rw[Yk]) zH)) _ ?_
   rintro o _ hw
   have e:j4 ((⟨((sg d'').drop k).toArray⟩:Str),c')=((sg d'').drop k,sg c'):=by
    show(((sg d'').drop k).toArray.toList,sg c')=_
    rw[Yk]
   rw[e] at hw
   exact hw
end
noncomputable def jO (ps:List (Str×Str)):List Nat:=(Wf ps.length).map fun j=>(tx (ps.take j)).length
theorem dm (ps:List (Str×Str)):(jO ps).length=ps.length:=by unfold jO;rw[Ja,Yt]
theorem iQ (ps:List (Str×Str))(q:Str×Str):jO (ps++[q])=jO ps++[(tx ps).length]:=by
 unfold jO
 rw[Jc,List.length_singleton,List.range_succ,Jh]
 congr 1
 ·refine List.map_congr_left fun j hj =>?_
  have:=Y9.mp hj
  rw[List.take_append_of_le_length (by omega)]
 ·show[(tx ((ps++[q]).take ps.length)).length]=[_]
  rw[List.take_left]
structure Hz (B ps qs:List (Str×Str))(n:Int):Prop where
 o1:Of B ps
 o2:Of B qs
 lo:1<=n
 hi:n<((tx ps).length:Nat)
 eq:tx qs=(tx ps).drop n.toNat++(tx ps).take n.toNat
 ap:∀a∈jO qs,∀c∈jO ps,(n+(a:Nat))%((tx ps).length:Nat)≠((c:Nat):Int)
theorem tO {L a b:List Nat}(h:L++a=b++L)(hl:L.length<a.length):b=a.drop (a.length-L.length)++a.take (a.length-L.length):=by
 have hn:a.length=b.length:=by
  have:=congrArg Ur h
  rw[Jc,Jc] at this;omega
 rcases List.append_eq_append_iff.mp h with ⟨t,e1,e2⟩|⟨t,e1,e2⟩
 ·subst e1
  rw[e2,Jc,Nat.add_sub_cancel,List.drop_left,List.take_left]
 ·have:=congrArg Ur e1
  rw[Jc] at this;omega
structure Ap (n:Nat)(ot on:List (Str×Str))(t:Nat):Prop where
 lo:∀a∈jO ot,a<t
 ln:∀c∈jO on,c+n<t
 ap:∀a∈jO ot,∀c∈jO on,a≠c+n
theorem Ap.ot {n t t':Nat}{ot on:List (Str×Str)}{q:Str×Str}(h:Ap n ot on t)(e:t=(tx ot).length)(l:t<t'):Ap n (ot++[q]) on t' where
 lo a ha:=by
  rw[iQ] at ha
  rcases Ji.mp ha with ha|ha
  ·exact Wq (h.lo a ha) l
  ·rw[Jg.mp ha,<-e];exact l
 ln c hc:=Wq (h.ln c hc) l
 ap a ha c hc:=by
  rw[iQ] at ha
  rcases Ji.mp ha with ha|ha
  ·exact h.ap a ha c hc
  ·rw[Jg.mp ha,<-e];exact Yw (h.ln c hc)
theorem Ap.on {n t t':Nat}{ot on:List (Str×Str)}{q:Str×Str}(h:Ap n ot on t)(e:t=(tx on).length+n)(l:t<t'):Ap n ot (on++[q]) t' where
 lo a ha:=Wq (h.lo a ha) l
 ln c hc:=by
  rw[iQ] at hc
  rcases Ji.mp hc with hc|hc
  ·exact Wq (h.ln c hc) l
  ·rw[Jg.mp hc,<-e];exact l
 ap a ha c hc:=by
  rw[iQ] at hc
  rcases Ji.mp hc with hc|hc
  ·exact h.ap a ha c hc
  ·rw[Jg.mp hc,<-e];exact J8 (h.lo a ha)
def Ho (L0:Sg)(ot on:List (Str×Str))(L:Sg)(d:Bool):Prop:=match d with
 | true=>L0++tx on=tx ot++L/\Ap L0.length ot on (tx ot).length/\(on=[]->(ot=[]/\L=L0)∨L.length<L0.length)
 | false=>tx ot=L0++(tx on++L)/\Ap L0.length ot on ((tx on).length+L0.length)
def mL (z:Str×Bool)(q:Str×Str)(z':Str×Bool):Prop:=Bh q z.1 z'.1/\z'.2=if q.2.length<z.1.length then z.2 else !z.2
theorem mL.go {z z':Str×Bool}{q:Str×Str}(h:mL z q z')(hq:sg q.2≠[])(hz:sg z.1≠[]){L0:Sg}{s:Bool}{ot on:List (Str×Str)}(i:Ho L0 ot on (sg z.1) (z.2==s)):sg z'.1≠[]/\Ho L0 (if (z.2==s)=true then ot++[q] else ot) (if (z.2==s)=true then on else on++[q]) (sg z'.1) (z'.2==s):=by
 obtain⟨h1,h2⟩:=h
 obtain⟨n,h1⟩:=nG.mp h1
 refine⟨n,?_⟩
 have ql:q.2.length=(sg q.2).length:=str_len _
 have zl:z.1.length=(sg z.1).length:=str_len _
 rw[ql,zl] at h2
 have qp:0<(sg q.2).length:=U1.mpr hq
 have zp:0<(sg z.1).length:=U1.mpr hz
 have rp:0<(sg z'.1).length:=U1.mpr n
 have K0:tx (ot++[q])=tx ot++sg q.2:=by rw[qW,rL]
 have Lm:tx (on++[q])=tx on++sg q.2:=by rw[qW,rL]
 rcases h1 with e|e
 ·have el:=congrArg Ur e
  rw[Jc] at el
  rw[if_pos (by omega)] at h2
  rw[h2]
  cases hd:(z.2==s) with
  | true=>
   rw[hd] at i
   obtain⟨i1,i2,i3⟩:=i
   rw[if_pos rfl,if_pos rfl]
   refine⟨by rw[i1,e,K0,Ug],i2.ot rfl (by rw[K0,Jc];omega),fun ho =>.inr ?_⟩
   rcases i3 ho with ⟨_,h⟩|h
   ·rw[<-h];omega
   ·omega
  | false=>
   rw[hd] at i
   obtain⟨i1,i2⟩:=i
   rw[if_neg (fun h=>nomatch h),if_neg (fun h=>nomatch h)]
   exact⟨by rw[i1,e,Lm,Ug],i2.on rfl (by rw[Lm,Jc];omega)⟩
 ·have el:=congrArg Ur e
  rw[Jc] at el
  rw[if_neg (by omega)] at h2
  rw[h2]
  cases hd:(z.2==s) with
  | true=>
   rw[hd] at i
   obtain⟨i1,i2,i3⟩:=i
   rw[if_pos rfl,if_pos rfl,show((!z.2)==s)=false by cases s<;>cases h:z.2<;>rw[h] at hd<;>first|rfl|cases hd]
   have il:=congrArg Ur i1
   rw[Jc,Jc] at il
   exact⟨by rw[K0,e,<-Ug,<-i1,Ug],i2.ot rfl (by omega)⟩
  | false=>
   rw[hd] at i
   obtain⟨i1,i2⟩:=i
   rw[if_neg (fun h=>nomatch h),if_neg (fun h=>nomatch h),show((!z.2)==s)=true by cases s<;>cases h:z.2<;>rw[h] at hd<;>first|rfl|cases hd]
   have il:=congrArg Ur i1
   rw[Jc,Jc] at il
   exact⟨by rw[Lm,e,i1];simp only[Ug],i2.on rfl (by omega),fun ho=>absurd ho (by simp)⟩
noncomputable abbrev uv:=(Str×Bool)×(Str×Str)
def Ch (z:Str×Bool):List uv->Str×Bool->Prop
 | [],z'=>z'=z
 | s::ss,z'=>s.1=z/\∃z1,mL z s.2 z1/\Ch z1 ss z'
theorem Ch.snoc {z' z2:Str×Bool}{q:Str×Str}(st:mL z' q z2):∀{ss:List uv} {z:Str×Bool},Ch z ss z'->Ch z (ss++[(z',q)]) z2
 | [],z,h=>⟨h,z2,h▸st,rfl⟩
 | s::ss,z,h=>⟨h.1,by obtain⟨z1,h1,h2⟩:=h.2;exact⟨z1,h1,Ch.snoc st h2⟩⟩
theorem Ch.drop {z':Str×Bool}{s:uv}:∀{j:Nat} {ss:List uv} {z:Str×Bool},Ch z ss z'->ss[j]? = some s->Ch s.1 (ss.drop j) z'
 | 0,s'::ss,z,h,e=>by cases e;exact(h.1:s.1=z)▸h
 | j+1,s'::ss,z,h,e=>by
  obtain⟨_,z1,_,h2⟩:=h
  exact Ch.drop (j:=j) h2 e
noncomputable abbrev tV (s:Bool)(ss:List uv):List (Str×Str):=(ss.filter fun t=>t.1.2==s).map (·.2)
noncomputable abbrev su (s:Bool)(ss:List uv):List (Str×Str):=(ss.filter fun t => !(t.1.2==s)).map (·.2)
theorem Ch.L9 {B:List (Str×Str)}(g:∀q∈B,sg q.2≠[]){z':Str×Bool}{L0:Sg}{s:Bool}:∀{ss:List uv} {z:Str×Bool} {ot on:List (Str×Str)},Ch z ss z'->(∀t∈ss,t.2∈B)->sg z.1≠[]->Ho L0 ot on (sg z.1) (z.2==s)->Ho L0 (ot++tV s ss) (on++su s ss) (sg z'.1) (z'.2==s)
 | [],z,ot,on,h,_,_,i=>by
  have h:z'=z:=h
  rw[h,tV,su,Yq,Yq,List.map_nil,Uh,Uh];exact i
 | t::ss,z,ot,on,h,o,hz,i=>by
  obtain⟨e,z1,h1,h2⟩:=h
  have hq:=g _ (o t Jn)
  obtain⟨n1,i1⟩:=h1.go hq hz i
  have:=Ch.L9 g h2 (fun y hy=>o y (Jp _ hy)) n1 i1
  rw[<-e] at this
  cases hd:(t.1.2==s) with
  | true=>
   rw[hd,if_pos rfl,if_pos rfl] at this
   rw[tV,su,Uw,Uw,hd,if_pos rfl,if_neg (fun h=>nomatch h),Uc,List.append_cons]
   exact this
  | false=>
   rw[hd,if_neg (fun h=>nomatch h),if_neg (fun h=>nomatch h)] at this
   rw[tV,su,Uw,Uw,hd,if_neg (fun h=>nomatch h),if_pos (by rfl),Uc,List.append_cons on]
   exact this
theorem Ch.ring {B:List (Str×Str)}(g:∀q∈B,sg q.2≠[]){z:Str×Bool}{ss:List uv}(h:Ch z ss z)(o:∀t∈ss,t.2∈B)(hz:sg z.1≠[])(hs:ss≠[]):Hz B (su z.2 ss) (tV z.2 ss) ((((tx (su z.2 ss)).length:Nat):Int)-((z.1.length:Nat):Int)):=by
 have hb:(z.2==z.2)=true:=by simp
 have i:=Ch.L9 g (L0:=sg z.1) (s:=z.2) (ot:=[]) (on:=[]) h o hz (by
  rw[hb]
  exact⟨by show sg z.1++[]=[]++sg z.1;rw[Uh,List.nil_append],⟨(fun a ha=>nomatch ha),(fun a ha=>nomatch ha),fun a ha=>nomatch ha⟩,fun _ =>.inl ⟨rfl,rfl⟩⟩)
 rw[hb,List.nil_append,List.nil_append] at i
 have oN:Of B (su z.2 ss):=fun q hq=>by
  obtain⟨t,ht,rfl⟩:=J1.mp hq
  exact o t (Yv.mp ht).1
 have oO:Of B (tV z.2 ss):=fun q hq=>by
  obtain⟨t,ht,rfl⟩:=J1.mp hq
  exact o t (Yv.mp ht).1
 have jH:su z.2 ss=[]->tV z.2 ss=[]->False:=fun e1 e2=>by
  cases ss with
  | nil=>exact hs rfl
  | cons t ss=>
   rw[su,Uw] at e1
   rw[tV,Uw] at e2
   cases hd:(t.1.2==z.2) with
   | true=>rw[hd,if_pos rfl] at e2;cases e2
   | false=>rw[hd,if_pos (by rfl)] at e1;cases e1
 generalize su z.2 ss=on at i oN jH ⊢
 generalize tV z.2 ss=ot at i oO jH ⊢
 obtain⟨i1,i2,i3⟩:=i
 have Pt:on≠[]:=fun e=>by
  rcases i3 e with ⟨e2,_⟩|h
  ·exact jH e e2
  ·exact absurd h (Yg _)
 have zl:z.1.length=(sg z.1).length:=str_len _
 have zp:0<(sg z.1).length:=U1.mpr hz
 have il:=congrArg Ur i1
 rw[Jc,Jc] at il
 have hl:(sg z.1).length<(tx on).length:=by
  have h0:0∈jO on:=by
   unfold jO
   exact J1.mpr ⟨0,Y9.mpr (U1.mpr Pt),rfl⟩
  have:=i2.ln 0 h0
  omega
 have en:(((tx on).length:Nat):Int)-((z.1.length:Nat):Int)=(((tx on).length-(sg z.1).length:Nat):Int):=by omega
 refine⟨oN,oO,by omega,by omega,?_,fun a ha c hc =>?_⟩
 ·rw[en,Uz]
  exact tO i1 hl
 ·have h1:=i2.lo a ha
  have h2:=i2.ln c hc
  have h3:=i2.ap a ha c hc
  rw[en]
  generalize (tx on).length=m at *
  generalize (sg z.1).length=k at *
  intro e
  rw[<-Int.natCast_add,<-Int.natCast_emod,Int.natCast_inj] at e
  by_cases hk:k<=a
  ·rw[show m-k+a=(a-k)+m by omega,Nat.add_mod_right,Nat.mod_eq_of_lt (by omega)] at e
   omega
  ·rw[Nat.mod_eq_of_lt (by omega)] at e
   omega
structure Fm (B:List (Str×Str))(E:List Str):Prop where
 go:∀r,fg B r->r∉E->∃q∈B,∃r',Bh q r r'/\r'∉E
def C0 (K:Jb):Sp:=fun vs H Q _=>JZ fun(l d a:Addr) (B:List (Str×Str)) (E:List Str) (x:Str) (b:Bool)=>vs=[.ref l,.ref d,.ref a]/\oh K H B l/\bT B/\H d=some (.dK (E.map dA))/\Fm B E/\H a=some (.tup [.str x,.bl b])/\fg B x/\x∉E /\
 ∀(q:Str×Str) (z a':Addr) (r:Str) (b':Bool) (H':Hp),aw H H'->H' z=some (.tup [.str q.1,.ref a'])->H' a'=some (.tup [.str r,.bl b'])->q∈B->fg B r->r∉E->mL (x,b) q (r,b')->Q (.ref z) H'
section
variable {P:Program}{w:World}{K:Jb}{mg:Str->Option Value}{base:Heap}{f:Addr}{fd:FuncData}
theorem bu:aO ["book", "ending", "stand", "lag", "ahead", "steps", "name", "code", "later"] ["book", "ending", "stand"] (aB (top dW)):=⟨rfl,rfl,rfl,by decide +kernel,rfl,by decide +kernel,by decide +kernel⟩
theorem EW (F:dh K "endless_step" "endless_step" (top dW) f fd)(T:Nm mg)(eR:Fn P w K mg base 2 "lags_behind" ["book", "lag"] (xa K)):bM P w K mg base gU 3 f fd ["book", "ending", "stand"] (C0 K):=by
 refine F.ok bu (fun vs H Q E h =>?_) (fun dG A outer s H vs Q E hr h =>?_)
 ·obtain⟨l,d,a,B,E,x,b,rfl,_⟩:=h
  rfl
 obtain⟨l,d,a,B,E,x,b,rfl,hB,gB,hd,ek,ha,hx,yg,q⟩:=h
 have hu:=eY hr
 have De:=hx.len gB
 have small:∀{n:Nat},n<=1000->n<sizeLine:=fun h=>Jy h (by decide)
 refine⟨_,(ah (fq (pv 2) (tupK K 2 rfl (ar (ai (i:=3) bu.nd rfl (Or.inl rfl)) (ar (ai (i:=4) bu.nd rfl (Or.inl rfl)) bt))))
  (ah (bw (i:=5) bu.nd rfl (Or.inl rfl) rfl (aN (Nc:=["step"]) (Fc:=["ending"]) (js:=[1])) (fV K (aY (eR.mono (by decide)) hr rfl (aa (pv 0) (aa (pv 3) ag)))) (aA (i:=0) (n:=1) (by decide)) (fun _ _ _ _ _=>(ai (i:=0) (dX ["step", "ending"]) rfl (Or.inl rfl))) (fun _ _ _ _ _=>(cO (fX (cI hu (bK (i9 K) (pv 0) ao (fun _ _=>rfl)) (pv 1))))) (fun _ _ _ _ _=>(pv 0)))
  (ah (fq (bK (i9 K) (pv 5) ao (fun _ _=>rfl)) (tupK K 3 rfl (ar (ai (i:=6) bu.nd rfl (Or.inl rfl)) (ar (ai (i:=7) bu.nd rfl (Or.inl rfl)) (ar (ai (i:=8) bu.nd rfl (Or.inl rfl)) bt)))))
  (ak (aK (fu (aa (pv 6) (aa (fu (aa (pv 8) (aa (gr (aG jE (au (dv K) rfl T.n_len (by rfl) (aa (pv 7) ag)) (au (dv K) rfl T.n_len (by rfl) (aa (pv 3) ag)) (aM _)) (pv 4) (wk (pv 4))) ag))) ag)))))))),?_⟩
 refine⟨_,rfl,a,_,rfl,d9.of ha,rfl,_,_,rfl,_,_,rfl,rfl,?_⟩
 dsimp only
 refine cj (te:=dU _ _ _ _ _ _) (fun v H'=>ck fun(p:Addr) (as:List C9)=>v = .ref p/\aw H H'/\H' p=some (.lst (as.map fun z=>V.ref z.1))/\as≠[]/\∀z∈as,vh H' z/\z.2.1∈B/\Bh z.2.1 x z.2.2/\z.2.2∉E) (fun Qn qn =>?_) ?_
 ·refine⟨_,rfl,_,rfl,l,x,B,rfl,hB,gB,by omega,fun as p1 H1 s1 hp10 eU al Gd hcv =>?_⟩
  have DY:∀{j:Nat} (hj:j<as.length),(as.map fun z=>V.ref z.1)[j]? = some (.ref as[j].1):=fun hj=>by rw[Jj,Jf hj];rfl
  refine⟨p1,rfl,⟨_,aE.of eU⟩,?_⟩
  refine cX (N:=as.length) (fun i ys H'=>H'=H1/\ys=((as.take i).filter fun z => !(az (E.map dA) (.inr z.2.2)).isSome).map fun z=>V.ref z.1) ⟨rfl,rfl⟩ ?_ ?_
  ·rintro i ys H2 Ny hi ⟨rfl,rfl⟩ ny
   refine⟨⟨_,_,aE.of eU,DY hi⟩,?_,?_⟩
   ·rw[Ja]
    have h1:=U5 (fun z:C9 => !(az (E.map dA) (.inr z.2.2)).isSome) (as.take i)
    rw[Jr] at h1
    exact small (by omega)
   rintro y H3 ⟨rfl,hy⟩
   have e:=hy _ (aE.of eU)
   rw[DY hi] at e;cases e
   have hz:=(Gd _ (Jt hi)).1
   have cC:=aH hi
   generalize as[i]=z at hz cC
   refine gn ⟨_,rfl,.inr (.inl ⟨z.1,_,2,.str z.2.2,rfl,rfl,d9.of hz,rfl,?_⟩)⟩
   cases hv:az (E.map dA) (.inr z.2.2) with
   | none=>
    refine⟨_,rfl,d,none,rfl,.inl ⟨_,.inr z.2.2,.inl (s1 _ _ hd),rfl,hv.symm⟩,_,rfl,e7 ⟨_,rfl,ny _ _ ⟨rfl,?_⟩⟩⟩
    rw[cC,Yp,Uw,hv,if_pos (by rfl),Jh];rfl
   | some v=>
    refine⟨_,rfl,d,some v,rfl,.inl ⟨_,.inr z.2.2,.inl (s1 _ _ hd),rfl,hv.symm⟩,_,rfl,bA (ny _ _ ⟨rfl,?_⟩)⟩
    rw[cC,Yp,Uw,hv,if_neg (fun z=>nomatch z),Yq,Uh]
  ·rintro ys H2 ⟨rfl,rfl⟩
   refine⟨⟨_,aE.of eU,by rw[Ja];exact Jd _⟩,fun p H3 n3 =>?_⟩
   rw[Jz] at n3
   have fm:∀z,z∈as.filter (fun z:C9 => !(az (E.map dA) (.inr z.2.2)).isSome)↔z∈as/\z.2.2∉E:=fun z=>by
    rw[Yv]
    refine and_congr Iff.rfl ⟨fun h y =>?_,fun h =>?_⟩
    ·rw[fF.mpr y] at h;cases h
    ·cases hs:(az (E.map dA) (.inr z.2.2)).isSome with
     | false=>rfl
     | true=>exact absurd (fF.mp hs) h
   refine qn _ _ ⟨p,_,rfl,s1.trans n3.same,n3.at,fun z =>?_,fun z hz =>?_⟩
   ·refine ae.el (ek.go x hx yg) _ ?_
    rintro q' hq' r' hb hn
    refine ae.el (hcv q' hq' r' hb) _ ?_
    rintro y hy _ e
    have:=(fm y).mpr ⟨hy,by rw[e];exact hn⟩
    rw[z] at this;cases this
   ·obtain⟨h1,h2⟩:=(fm z).mp hz
    refine ae.el (Gd z h1) _ ?_
    rintro h3 h4 h5
    exact⟨n3.same _ _ h3,h4,h5,h2⟩
 intro v H1
 refine ae.go ?_
 rintro p1 as rfl s1 eU jH has
 refine gn ?_
 obtain⟨z,as',rfl⟩:∃z as',as=z::as':=by cases as with|nil=>exact absurd rfl jH|cons z r=>exact⟨z,r,rfl⟩
 refine ae.el (has z Jn) _ ?_
 rintro hz hzB hzb hzE
 have Hr:=(gB.cd _ hzB).le
 refine⟨_,rfl,.inl ⟨p1,_,0,.ref z.1,rfl,rfl,aE.of eU,ic (by decide) rfl,z.1,_,rfl,d9.of hz,rfl,_,_,rfl,_,_,rfl,_,_,rfl,rfl,?_⟩⟩
 have fin:∀b':Bool,mL (x,b) z.2.1 (z.2.2,b')->∀a' H2,dz H1 a' (.tup [.str z.2.2,.bl b']) H2->([V.str z.2.1.1,.ref a']:List V).length<=sizeLine/\∀p H3,dz H2 p (.tup [.str z.2.1.1,.ref a']) H3->Q (.ref p) H3:=fun b' st a' H2 n2=>⟨by show 2<=sizeLine;decide,fun p H3 n3=>q z.2.1 p a' z.2.2 b' H3 (s1.trans (n2.same.trans n3.same)) n3.at (n3.same _ _ n2.at) hzB (hx.lt hzB hzb) hzE st⟩
 refine⟨_,rfl,_,rfl,_,rfl,_,_,rfl,⟨sizeOk (by omega),rfl⟩,_,rfl,_,_,rfl,⟨sizeOk (by omega),rfl⟩,_,_,rfl,rfl,_,rfl,ee (fun c =>?_) (fun c =>?_)⟩
 ·exact⟨_,rfl,by show 2<=sizeLine;decide,fun a' H2 n2=>fin _ ⟨hzb,(if_pos (show z.2.1.2.length<x.length by have:=of_decide_eq_true c;omega)).symm⟩ a' H2 n2⟩
 ·exact⟨_,rfl,_,rfl,by show 2<=sizeLine;decide,fun a' H2 n2=>fin _ ⟨hzb,(if_neg (fun(h:z.2.1.2.length<x.length)=>c (decide_eq_true (by omega)))).symm⟩ a' H2 n2⟩
end
theorem bT.name {bk:List (Str×Str)}(g:bT bk){q:Str×Str}(h:q∈bk):az (byName bk) (.inr q.1)=some (.str q.2):=
 m7 (f:=fun q:Str×Str=>((.inr q.1:Key),V.str q.2)) h rfl fun y hy e=>by
  rw[vC g.nm hy h (by injection e)]
theorem eh {bk ps:List (Str×Str)}(g:bT bk)(o:Of bk ps):(tx ps).length<=12*ps.length:=by
 induction ps with
 | nil=>exact Jd _
 | cons q ps ih=>
  have h1:=ih fun r hr=>o r (Jp _ hr)
  have h2:=(g.cd q (o q Jn)).le
  rw[str_len] at h2
  show(sg q.2++tx ps).length<=_
  rw[Jc,Jx]
  have h2:(sg q.2).length<=12:=h2
  omega
def xZ (K:Jb)(H:Hp)(np:Addr)(ps:List (Str×Str)):Prop:=aE K H np ((ps.map (·.1)).map V.str)
def qS (K:Jb):Sp:=fun vs H Q _=>om fun(l np:Addr) (bk ps:List (Str×Str))=>vs=[.ref l,.ref np]/\oh K H bk l/\bT bk/\Of bk ps/\ps.length<=1000/\xZ K H np ps/\∀H',aw H H'->Q (.str (mE ps)) H'
section
variable {P:Program}{w:World}{K:Jb}{mg:Str->Option Value}{base:Heap}{f:Addr}{fd:FuncData}
theorem iw:aO ["book", "names", "codes", "name"] ["book", "names"] (aB (top jf)):=⟨rfl,rfl,rfl,by decide +kernel,rfl,by decide +kernel,by decide +kernel⟩
theorem Gb (F:dh K "written" "written" (top jf) f fd)(T:Nm mg):bM P w K mg base gU 1 f fd ["book", "names"] (qS K):=by
 refine F.ok iw (fun vs H Q E h =>?_) (fun dG A outer s H vs Q E hr h =>?_)
 ·obtain⟨l,np,bk,ps,rfl,_⟩:=h
  rfl
 obtain⟨l,np,bk,ps,rfl,hB,g,o,MV,hN,q⟩:=h
 have hu:=eY hr
 refine⟨_,(ah (aI (i:=2) iw.nd rfl (Or.inr rfl) (iP rfl (aN (Nc:=["name", "code"]) (Fc:=[]) (js:=[])) (fV K (pv 0)) (dP (aP (aA (i:=0) (n:=2) (by decide)) (aP (aA (i:=1) (n:=2) (by decide)) cY aF aX) aF (bf aF aX))) (fun _ _ _ _ _=>(tupK K 2 rfl (ar (ai (i:=0) (dX ["name", "code"]) rfl (Or.inl rfl)) (ar (ai (i:=1) (dX ["name", "code"]) rfl (Or.inl rfl)) bt)))) (fun _ _ _ _ _=>br) (fun _ _ _ _ _=>(pv 0)) (fun _ _ _ _ _=>(pv 1))))
  (ah (dF PassesOwn.never rfl (fV K (pv 1)) (ai (i:=3) iw.nd rfl (Or.inl rfl)) (ak (bV (fX (cI hu (pv 3) (pv 2))) (ak Aj) aW)))
  (ak (aK (oj K PySem.F.plainAttrs_str PySem.F.slot_str_join PySem.F.type_str_join (xR K) bb (aa (bC rfl (aN (Nc:=["name"]) (Fc:=["codes"]) (js:=[2])) (fV K (pv 1)) (aA (i:=0) (n:=1) (by decide)) (fun _ _ _ _ _=>(ai (i:=0) (dX ["name", "codes"]) rfl (Or.inl rfl))) (fun _ _ _ _ _=>br) (fun _ _ _ _ _=>(cu hu (pv 1) (pv 0) (fun _ _=>rfl)))) ag)))))),?_⟩
 refine cj (te:=je _ _ _ _ _ _ _) (fun v H'=>∃D,v = .ref D/\dz H D (.dK (byName bk)) H') (fun Qn qn =>?_) ?_
 ·obtain⟨vs,hl,hd⟩:=id hB
  exact⟨_,rfl,l,rfl,⟨_,hl⟩,fun D hD=>Fx (f:=fun q=>(.inr q.1,.str q.2)) (jt g.nm) (by have:=g.le;omega) (fun q H Q h=>⟨_,rfl,h⟩) (fun q H Q h=>⟨_,rfl,h⟩) hB hD (qn _ _ ⟨D,rfl,hD,rfl⟩)⟩
 rintro v H1 ⟨D,rfl,n1⟩
 refine gn ?_
 have AV:=n1.same.seq hN
 refine cb (t:=lB _ _ _) (fun σ H'=>∃x3,σ=[some (.ref l),some (.ref np),some (.ref D),x3]/\H'=H1) (fun Nx nx =>?_) ?_
 ·refine⟨_,rfl,np,rfl,⟨_,AV⟩,?_⟩
  refine eJ (N:=ps.length) (fun i σ H'=>∃x3,σ=[some (.ref l),some (.ref np),some (.ref D),x3]/\H'=H1) ⟨_,rfl,rfl⟩ ?_ ?_
  ·rintro i σ H2 hi ⟨x3,rfl,rfl⟩
   refine⟨⟨_,_,AV,fL hi⟩,?_⟩
   rintro x H3 ⟨rfl,hy⟩
   have e:=hy _ AV
   rw[fL hi] at e;cases e
   refine gn ⟨_,rfl,_,rfl,D,_,rfl,.inl ⟨_,.inr ps[i].1,.inl n1.at,rfl,(g.name (o _ (Jt hi))).symm⟩,_,rfl,bA ⟨_,rfl,rfl⟩⟩
  ·rintro σ H2 ⟨x3,rfl,rfl⟩
   exact⟨⟨_,AV,by rw[jm];exact Jd _⟩,nx _ _ ⟨_,rfl,rfl⟩⟩
 rintro σ H2 ⟨x3,rfl,rfl⟩
 refine⟨rfl,_,rfl,np,rfl,⟨_,AV⟩,?_⟩
 refine bF (N:=ps.length) (fun i ys H'=>H'=H2/\ys=((ps.take i).map (·.2)).map V.str) ⟨rfl,rfl⟩ ?_ ?_
 ·rintro i ys H3 Ny hi ⟨rfl,rfl⟩ ny
  refine⟨⟨_,_,AV,fL hi⟩,by rw[Ja,Ja,Jr];exact Jy (show min i ps.length<=1000 by omega) (by decide),?_⟩
  rintro x H4 ⟨rfl,hy⟩
  have e:=hy _ AV
  rw[fL hi] at e;cases e
  refine gn ⟨_,rfl,_,rfl,D,.str ps[i].2,rfl,.inl ⟨_,.inr ps[i].1,.inl n1.at,rfl,(g.name (o _ (Jt hi))).symm⟩,ny _ _ ⟨rfl,?_⟩⟩
  rw[aH hi,Jh,Jh];rfl
 ·rintro ys H3 ⟨rfl,rfl⟩
  refine⟨⟨_,AV,by rw[jm];exact Jd _⟩,fun p3 hp3 =>?_⟩
  rw[Jz]
  refine⟨"",p3,ps.map (·.2),rfl,rfl,aE.of aJ,?_,?_⟩
  ·have h1:=rM ps
   have h2:=eh g o
   have e0:Str.length "" = 0:=rfl
   rw[h1,e0]
   omega
  ·rw[sY]
   exact q _ (n1.same.trans (bS hp3 _))
end
noncomputable abbrev Sn:=Addr×Str×Bool
noncomputable def kP (z:Str×Bool):PyData := .tuple [.str z.1,.bool z.2]
theorem jX (y z:Str×Bool):PyData.eqv (kP y) (kP z)=decide (y=z):=by
 obtain⟨a,b⟩:=y
 obtain⟨c,d⟩:=z
 unfold kP
 simp only[PyData.eqv,PyData.eqvAll]
 by_cases h1:a=c
 ·by_cases h2:b=d
  ·subst h1 h2;simp
  ·rw[decide_eq_false (fun z=>h2 (by injection z))]
   subst h1
   cases b<;>cases d<;>first|exact absurd rfl h2|simp
 ·rw[decide_eq_false (fun z=>h1 (by injection z))]
  simp[h1]
theorem nh {x:Str}{b:Bool}(h:jJ x):Sh 1 (kP (x,b)):=Sh.tuple (n:=0) fun d hd=>by
 rcases Um.mp hd with rfl|hd
 ·exact Sh.str (bW fun ch hc=>by rcases h ch hc with e|e<;>omega)
 ·rw[Jg.mp hd];exact⟨by simp[PyData.canLay0],by simp[PyData.depth]⟩
theorem sE {z:Str×Bool}{L:List (Str×Bool)}:inD (kP z) (L.map kP)=true↔z∈L:=by
 unfold inD
 rw[List.any_map,List.any_eq_true]
 refine⟨fun⟨y,hy,e⟩=>?_,fun h=>⟨z,h,?_⟩⟩
 ·have e:PyData.eqv (kP y) (kP z)=true:=e
  rw[jX] at e
  rw[<-of_decide_eq_true e];exact hy
 ·show PyData.eqv (kP z) (kP z)=true
  rw[jX];exact decide_eq_true rfl
theorem xD {α:Type}[DecidableEq α]{y: α}:∀{xs:List α},y∈xs->∃j:Nat,xs[j]? = some y/\∀m,m<j->xs[m]? ≠ some y
 | x::xs,h=>by
  by_cases e:x=y
  ·exact⟨0,by rw[e];rfl,fun m hm=>absurd hm (Nat.not_lt_zero _)⟩
  ·refine ae.el (xD ((Um.mp h).resolve_left (Ne.symm e))) _ ?_
   rintro j h1 h2
   refine⟨j+1,h1,fun m hm =>?_⟩
   cases m with
   | zero=>exact fun z=>e (Option.some.inj z)
   | succ m=>exact h2 m (by omega)
theorem fg.Nb {B:List (Str×Str)}{r:Str}(h:fg B r):LD B r:=by
 obtain⟨q,hq,a,_,_,e⟩:=h
 exact⟨q,hq,e▸List.drop_suffix _ _⟩
theorem fg.bin {B:List (Str×Str)}(g:bT B){r:Str}(h:fg B r):jJ r:=fun ch hc=>by
 obtain⟨q,hq,hs⟩:=h.Nb
 exact(g.cd q hq).bin ch (hs.subset hc)
def gH (K:Jb)(H:Hp)(L:List Sn):Prop:=∀z∈L,H z.1=some (.tup [.str z.2.1,.bl z.2.2])
theorem gH.den {K:Jb}{H:Hp}:∀{L:List Sn},gH K H L->aL K H ((L.map (·.2)).map kP) (L.map fun z=>V.ref z.1)
 | [],_=>by unfold aL;rfl
 | z::L,h=>by
  rw[Uc,Uc,Uc]
  unfold aL
  refine⟨_,_,rfl,?_,gH.den fun y hy=>h y (Jp _ hy)⟩
  unfold kP Den
  refine⟨z.1,_,rfl,d9.of (h z Jn),?_⟩
  unfold aL
  refine⟨_,_,rfl,(by unfold Den;rfl),?_⟩
  unfold aL
  refine⟨_,_,rfl,(by unfold Den;rfl),?_⟩
  unfold aL
  rfl
theorem gH.keep {K:Jb}{H H':Hp}{L:List Sn}(h:gH K H L)(k:∀a vs,H a=some (.tup vs)->H' a=some (.tup vs)):gH K H' L:=fun z hz=>k _ _ (h z hz)
def GK (B:List (Str×Str))(H H':Hp)(z:Addr):Prop:=AB fun(p q:Addr) (n:Int) (ps qs:List (Str×Str))=>H p=none/\H q=none/\p≠q/\H' z=some (.tup [.ref p,.ref q,.int n])/\H' p=some (.lst ((ps.map (·.1)).map V.str))/\H' q=some (.lst ((qs.map (·.1)).map V.str))/\Hz B ps qs n/\ps.length<=420/\qs.length<=420
theorem kQ (ps:List (Str×Str)):(mE ps).length=(tx ps).length:=by
 rw[str_len]
 show(sg (mE ps)).length=_
 rw[qj]
def zK (K:Jb):Sp:=fun vs H Q _=>AB fun(l d:Addr) (B:List (Str×Str)) (E:List Str) (x:Str)=>vs=[.ref l,.ref d,.str x]/\oh K H B l/\bT B/\H d=some (.dK (E.map dA))/\Fm B E/\fg B x/\x∉E /\
 ∀(z:Addr) (H':Hp),aw H H'->GK B H H' z->Q (.ref z) H'
theorem Az (c b:Bool):decide (V.bl c=V.bl b)=(c==b):=by cases c<;>cases b<;>rfl
theorem sW {B:List (Str×Str)}(g:bT B){q:Str×Str}(h:q∈B):sg q.2≠[]:=fun z=>by
 have h1:=(g.cd q h).pos
 have e:q.2.length=(sg q.2).length:=str_len _
 rw[z] at e
 have:q.2.length=0:=e
 omega
section
variable {P:Program}{w:World}{K:Jb}{mg:Str->Option Value}{base:Heap}{f:Addr}{fd:FuncData}
def C7 (H:Hp)(ss:List Addr)(qk:List uv):Prop:=ss.length=qk.length/\∀(i:Nat) (hi:i<qk.length),ck fun(sa t:Addr)=>(ss.map V.ref)[i]? = some (.ref sa)/\H sa=some (.tup [.ref t,.str qk[i].2.1])/\H t=some (.tup [.str qk[i].1.1,.bl qk[i].1.2])
theorem C7.same {H H':Hp}{ss:List Addr}{qk:List uv}(h:C7 H ss qk)(s:aw H H'):C7 H' ss qk:=⟨h.1,fun i hi=>by
 refine ae.el (h.2 i hi) _ ?_
 rintro sa t e1 e2 e3
 exact⟨sa,t,e1,s _ _ e2,s _ _ e3⟩⟩
theorem sU {op:V->V->Hp->VK->Prop}{b:Bool}(g:Bool->Bool)(ho:∀(c:Bool) (H:Hp) (Q:VK),Q (.bl (g c)) H->op (.bl c) (.bl b) H Q){ss:List Addr}{qk:List uv}{H:Hp}{p6:Addr}{x0 x1 x2 x3 x4 x5 x6 x9 Oh:Option V}{Qn:VK}(dl:qk.length<=416)(h6:H p6=some (.lst (ss.map V.ref)))(st:C7 H ss qk)
  (qn:∀(p:Addr) (H':Hp),dz H p (.lst ((((qk.filter fun t=>g t.1.2).map (·.2)).map (·.1)).map V.str)) H'->Qn (.ref p) H') :
  dU (wB K (mY 8)) [Str.ofString "later",Str.ofString "side",Str.ofString "name"].length [7] (pC K 2 (gw (pC K 2 (gw (di 0) (gw (di 1) qV))) (gw (di 2) qV))) (sh (BQ op (mY 1) (mY 3))) (mY 2)
   [x0,x1,x2,x3,x4,x5,x6,some (.bl b),some (.ref p6),x9,Oh] H Qn:=by
 refine⟨_,rfl,p6,rfl,⟨_,aE.of h6⟩,?_⟩
 refine cX (N:=qk.length) (fun i ys H'=>H'=H/\ys=((((qk.take i).filter fun t=>g t.1.2).map (·.2)).map (·.1)).map V.str) ⟨rfl,rfl⟩ ?_ ?_
 ·intro i ys H7 Ny hi hz_ ny
  refine ae.el hz_ _ ?_
  clear hz_
  rintro rfl rfl
  refine ae.el (st.2 i hi) _ ?_
  rintro sa t e1 e2 e3
  have cC:=aH hi
  generalize qk[i]=y at e2 e3 cC
  refine⟨⟨_,_,aE.of h6,e1⟩,Jy (show _<=1000 from ?_) (by decide),?_⟩
  ·rw[Ja,Ja,Ja]
   have h1:=U5 (fun t:uv=>g t.1.2) (qk.take i)
   rw[Jr] at h1
   omega
  rintro z H8 ⟨rfl,hy⟩
  have e:=hy _ (aE.of h6)
  rw[e1] at e;cases e
  refine⟨sa,_,rfl,d9.of e2,rfl,_,_,rfl,t,_,rfl,d9.of e3,rfl,_,_,rfl,_,_,rfl,rfl,_,_,rfl,rfl,?_⟩
  refine⟨_,rfl,_,rfl,ho _ _ _ ⟨_,rfl,ee (fun c=>⟨_,rfl,ny _ _ ⟨rfl,?_⟩⟩) (fun c=>ny _ _ ⟨rfl,?_⟩)⟩⟩
  ·rw[cC,Yp,Uw,if_pos c,Yq,Jh,Jh,Jh];rfl
  ·rw[cC,Yp,Uw,if_neg c,Yq,Uh]
 ·intro ys H7
  refine ae.go ?_
  rintro rfl rfl
  rw[Jz]
  exact⟨⟨_,aE.of h6,by rw[Ja,st.1];exact Jd _⟩,fun p H' n=>qn p _ n⟩
theorem bg:aO ["book", "ending", "lag", "stands", "names", "stand", "name", "ahead", "steps", "one", "other"] ["book", "ending", "lag"] (aB (top gE)):=⟨rfl,rfl,rfl,by decide +kernel,rfl,by decide +kernel,by decide +kernel⟩
theorem Fl (F:dh K "ring_from" "ring_from" (top gE) f fd)(T:Nm mg)(kT:Fn P w K mg base 3 "endless_step" ["book", "ending", "stand"] (C0 K))(jr:Fn P w K mg base 1 "written" ["book", "names"] (qS K)):bM P w K mg base gU 4 f fd ["book", "ending", "lag"] (zK K):=by
 refine F.ok bg (fun vs H Q E h =>?_) (fun dG A outer s H vs Q E hr h =>?_)
 ·obtain⟨l,d,B,E,x,rfl,_⟩:=h
  rfl
 unfold zK at h
 refine ae.el h _ ?_
 clear h
 rintro l d B E x0 rfl hB gB hd ek hx0 hx0E q
 have fO:=hr.units
 have Ee:=zP hr
 have PX:=xk gB.cd
 have hle:=gB.le
 have small:∀{n:Nat},n<=1000->n<sizeLine:=fun h=>Jy h (by decide)
 refine⟨_,(ah (aI (i:=3) bg.nd rfl (Or.inl rfl) (dy ag))
  (ah (aI (i:=4) bg.nd rfl (Or.inl rfl) (dy ag))
  (ah (aI (i:=5) bg.nd rfl (Or.inl rfl) (fu (aa (pv 2) (aa dZ ag))))
  (ah (gi PassesOwn.never (aG (yY K Ee) (pv 5) (pv 3) (by with_unfolding_all rfl)) (ah (cH (oj K PySem.F.plainAttrs_list PySem.F.slot_list_append PySem.F.type_list_append gW (pv 3) (aa (pv 5) ag)))
  (ah (fq (aY (kT.mono (by decide)) hr rfl (aa (pv 0) (aa (pv 1) (aa (pv 5) ag)))) (tupK K 2 rfl (ar (ai (i:=6) bg.nd rfl (Or.inl rfl)) (ar (ai (i:=5) bg.nd rfl (Or.inl rfl)) bt))))
  (ak (cH (oj K PySem.F.plainAttrs_list PySem.F.slot_list_append PySem.F.type_list_append gW (pv 4) (aa (pv 6) ag)))))))
  (ah (fq (pv 5) (tupK K 2 rfl (ar (ai (i:=2) bg.nd rfl (Or.inl rfl)) (ar (ai (i:=7) bg.nd rfl (Or.inr rfl)) bt))))
  (ah (aI (i:=8) bg.nd rfl (Or.inl rfl) (cw (yj K) (kM rfl rfl T.n_list rfl T.n_zip (aa (pv 3) (aa (pv 4) ag))) (dc (oj K PySem.F.plainAttrs_list PySem.F.slot_list_index PySem.F.type_list_index (Bt K Ee) (pv 3) (aa (pv 5) ag))) cU))
  (ah (bw (i:=9) bg.nd rfl (Or.inl rfl) rfl (aN (Nc:=["later", "side", "name"]) (Fc:=["ahead"]) (js:=[7])) (fV K (pv 8)) (dP (aP (dP (aP (aA (i:=0) (n:=3) (by decide)) (aP (aA (i:=1) (n:=3) (by decide)) cY aF aX) aF (bf aF aX))) (aP (aA (i:=2) (n:=3) (by decide)) cY aF aX) (wg (bf aF (bf aF aX))) (bf aF aX))) (fun _ _ _ _ _=>(tupK K 2 rfl (ar (tupK K 2 rfl (ar (ai (i:=0) (dX ["later", "side", "name", "ahead"]) rfl (Or.inl rfl)) (ar (ai (i:=1) (dX ["later", "side", "name", "ahead"]) rfl (Or.inl rfl)) bt))) (ar (ai (i:=2) (dX ["later", "side", "name", "ahead"]) rfl (Or.inl rfl)) bt)))) (fun _ _ _ _ _=>(cO (aG (rK K fO) (pv 1) (pv 3) (aM _)))) (fun _ _ _ _ _=>(pv 2)))
  (ah (bw (i:=10) bg.nd rfl (Or.inl rfl) rfl (aN (Nc:=["later", "side", "name"]) (Fc:=["ahead"]) (js:=[7])) (fV K (pv 8)) (dP (aP (dP (aP (aA (i:=0) (n:=3) (by decide)) (aP (aA (i:=1) (n:=3) (by decide)) cY aF aX) aF (bf aF aX))) (aP (aA (i:=2) (n:=3) (by decide)) cY aF aX) (wg (bf aF (bf aF aX))) (bf aF aX))) (fun _ _ _ _ _=>(tupK K 2 rfl (ar (tupK K 2 rfl (ar (ai (i:=0) (dX ["later", "side", "name", "ahead"]) rfl (Or.inl rfl)) (ar (ai (i:=1) (dX ["later", "side", "name", "ahead"]) rfl (Or.inl rfl)) bt))) (ar (ai (i:=2) (dX ["later", "side", "name", "ahead"]) rfl (Or.inl rfl)) bt)))) (fun _ _ _ _ _=>(cO (aG (yc K fO) (pv 1) (pv 3) (aM _)))) (fun _ _ _ _ _=>(pv 2)))
  (ak (aK (fu (aa (pv 9) (aa (pv 10) (aa (aU A8 (au (dv K) rfl T.n_len (by rfl) (aa (aY (jr.mono (by decide)) hr rfl (aa (pv 0) (aa (pv 9) ag))) ag)) (au (dv K) rfl T.n_len (by rfl) (aa (pv 2) ag))) ag)))))))))))))),?_⟩
 refine⟨by show 0<=sizeLine;decide,fun sp H1 n1=>gn ⟨by show 0<=sizeLine;decide,fun np H2 n2=>gn ⟨_,rfl,by show 2<=sizeLine;decide,fun a0 H3 n3=>gn ?_⟩⟩⟩
 have oH:H sp=none:=n1.nn
 have IA:H np=none:=n1.back n2.nn
 have Fy:sp≠np:=aj n1.at n2.nn
 have s3:=n1.same.trans (n2.same.trans n3.same)
 rw[show(List.set _ _ _:L2.St)=[some (.ref l),some (.ref d),some (.str x0),some (.ref sp),some (.ref np),some (.ref a0),none,none,none,none,none] from rfl]
 dsimp only
 have cnt:∀{L:List Sn},(L.map (·.2)).Nodup->(∀z∈L,fg B z.2.1)->L.length<=416:=fun{L} nd h=>by
  have h1:=cF (m:=(yy B).flatMap fun r=>[(r,true),(r,false)]) nd fun z hz=>by
   refine ae.el (J1.mp hz) _ ?_
   rintro y hy rfl
   refine Wy.mpr ⟨y.2.1,(h y hy).Nb.mem,?_⟩
   cases e:y.2.2 with
   | true=>exact Um.mpr (.inl (by rw[<-e]))
   | false=>exact Jp _ (Jg.mpr (by rw[<-e]))
  have h2:∀l:List Str,(l.flatMap fun r=>[(r,true),(r,false)]).length=2*l.length:=fun l=>by
   induction l with
   | nil=>rfl
   | cons a l ih=>rw[List.flatMap_cons,Jc,ih,Jx];show 2+2*l.length=2*(l.length+1);omega
  rw[Ja,h2] at h1
  omega
 let J:Nat->L2.St->Hp->Prop:=fun m σ H'=>zW fun(a:Addr) (x:Str) (b:Bool) (L:List Sn) (qs:List (Str×Str)) (x6:Option V) =>σ=[some (.ref l),some (.ref d),some (.str x0),some (.ref sp),some (.ref np),some (.ref a),x6,none,none,none,none]/\m=500-L.length/\aw H H'/\H' sp=some (.lst (L.map fun z=>V.ref z.1))/\H' np=some (.lst ((qs.map (·.1)).map V.str))/\H' a=some (.tup [.str x,.bl b])/\fg B x/\x∉E/\gH K H' L/\(∀z∈L,fg B z.2.1)/\(L.map (·.2)).Nodup/\qs.length=L.length/\Of B qs/\Ch (x0,true) ((L.map (·.2)).zip qs) (x,b)
 refine cb (t:=ig _ _) (fun σ H'=>zW fun(a:Addr) (x:Str) (b:Bool) (L:List Sn) (qs:List (Str×Str)) (x6:Option V) =>σ=[some (.ref l),some (.ref d),some (.str x0),some (.ref sp),some (.ref np),some (.ref a),x6,none,none,none,none]/\aw H H'/\H' sp=some (.lst (L.map fun z=>V.ref z.1))/\H' np=some (.lst ((qs.map (·.1)).map V.str))/\H' a=some (.tup [.str x,.bl b])/\fg B x/\gH K H' L/\(∀z∈L,fg B z.2.1)/\L.length<=416/\qs.length=L.length/\Of B qs/\(x,b)∈L.map (·.2)/\Ch (x0,true) ((L.map (·.2)).zip qs) (x,b)) (fun Nx nx =>?_) ?_
 ·refine iG J ⟨_,a0,x0,true,[],[],none,rfl,rfl,s3,n3.same _ _ (n2.same _ _ n1.at),n3.same _ _ n2.at,n3.at,hx0,hx0E,(fun z h=>nomatch h),(fun z h=>nomatch h),List.nodup_nil,rfl,(fun z h=>nomatch h),rfl⟩ ?_
  intro m σ H4
  refine ae.go ?_
  rintro a x b L qs x6 rfl rfl s4 pZ hnp ha hx yg hL hLl nd ql oq ch
  have hl:=cnt nd hLl
  have Ig:∀e∈(L.map (·.2)).map kP,SeqAt.shaped e=true:=fun e he=>by
   refine ae.el (J1.mp he) _ ?_
   rintro y hy rfl
   refine ae.el (J1.mp hy) _ ?_
   rintro z hz rfl
   exact(nh (b:=z.2.2) ((hLl z hz).bin gB)).shaped (by decide)
  have A2:Den K H4 (kP (x,b)) (.ref a):=by
   have:=(gH.den (K:=K) (H:=H4) (L:=[(a,x,b)]) fun z hz=>by rw[Jg.mp hz];exact ha)
   unfold aL at this
   obtain⟨v,r,e,h1,_⟩:=this
   cases e
   exact h1
  refine⟨_,rfl,_,rfl,sp,_,kP (x,b),_,rfl,.inl (aE.of pZ),A2,hL.den,(nh (hx.bin gB)).1,Ig,_,rfl,?_⟩
  rw[if_pos rfl]
  by_cases fM:(x,b)∈L.map (·.2)
  ·rw[sE.mpr fM]
   exact bA (nx _ _ ⟨a,x,b,L,qs,x6,rfl,s4,pZ,hnp,ha,hx,hL,hLl,hl,ql,oq,fM,ch⟩)
  ·have e:inD (kP (x,b)) ((L.map (·.2)).map kP)=false:=by
    cases h:inD (kP (x,b)) ((L.map (·.2)).map kP) with
    | false=>rfl
    | true=>exact absurd (sE.mp h) fM
   rw[e]
   refine e7 ⟨fun σ' H'=>∃m',m'<500-L.length/\J m' σ' H',fun _ _ h=>h,?_⟩
   refine⟨_,rfl,.inl ⟨rfl,_,aE.of pZ⟩,_,rfl,sp,_,_,rfl,rfl,pZ,small (by rw[Ja];omega),fun H5 c5 =>?_⟩
   have k5:∀a vs,H4 a=some (.tup vs)->H5 a=some (.tup vs):=fun a vs e=>by rw[c5.ne (fun z=>by rw[z,pZ] at e;cases e)];exact e
   have s5:aw H H5:=fun b o e=>by rw[c5.ne (aj e oH)];exact s4 b o e
   have Kc:H5 np=some (.lst ((qs.map (·.1)).map V.str)):=by rw[c5.ne (Ne.symm Fy)];exact hnp
   refine⟨_,rfl,_,rfl,_,rfl,l,d,a,B,E,x,b,rfl,hB.same s5,gB,s5 _ _ hd,ek,k5 _ _ ha,hx,yg,fun q' z a' r b' H6 s6 hz ha' hqB hrL hrE st=>⟨z,_,rfl,d9.of hz,rfl,_,_,rfl,_,_,rfl,rfl,?_⟩⟩
   have A9:=s6 _ _ Kc
   refine⟨_,rfl,.inl ⟨rfl,_,aE.of A9⟩,_,rfl,np,_,_,rfl,rfl,A9,small (by rw[Ja,Ja];omega),fun H7 c7 =>?_⟩
   have k7:∀a vs,H6 a=some (.tup vs)->H7 a=some (.tup vs):=fun a vs e=>by rw[c7.ne (fun z=>by rw[z,A9] at e;cases e)];exact e
   have kk:∀a vs,H4 a=some (.tup vs)->H7 a=some (.tup vs):=fun a vs e=>k7 _ _ (s6 _ _ (k5 _ _ e))
   refine⟨500-(L.length+1),by omega,a',r,b',L++[(a,x,b)],qs++[q'],_,rfl,by rw[Jc];rfl,fun b o e=>by rw[c7.ne (aj e IA)];exact s6 _ _ (s5 b o e),?_,?_,k7 _ _ ha',hrL,hrE,fun y hy =>?_,fun y hy =>?_,?_,by rw[Jc,Jc,ql];rfl,fun y hy =>?_,?_⟩
   ·rw[c7.ne Fy,s6 _ _ c5.at,Jh];rfl
   ·rw[c7.at,Jh,Jh];rfl
   ·rcases Ji.mp hy with hy|hy
    ·exact kk _ _ (hL y hy)
    ·rw[Jg.mp hy];exact kk _ _ ha
   ·rcases Ji.mp hy with hy|hy
    ·exact hLl y hy
    ·rw[Jg.mp hy];exact hx
   ·rw[Jh];exact m5 nd fM
   ·rcases Ji.mp hy with hy|hy
    ·exact oq y hy
    ·rw[Jg.mp hy];exact hqB
   ·rw[Jh,List.zip_append (by rw[Ja,ql])]
    exact ch.snoc st
 intro σ H4
 refine ae.go ?_
 rintro a x b L qs x6 rfl s4 pZ hnp ha hx hL hLl hl ql oq fM ch
 refine ae.el (xD fM) _ ?_
 rintro j hj hjm
 have Fv:j<L.length:=by
  have:=(Ju.mp hj).1
  rw[Ja] at this
  exact this
 obtain⟨W,hW⟩:∃W,W=(L.map (·.2)).zip qs:=⟨_,rfl⟩
 have Wl:W.length=L.length:=by rw[hW,List.length_zip,Ja,ql,Nat.min_self]
 have M1:∀{i:Nat} (hi:i<L.length),W[i]? = some (L[i].2,qs[i]'(by omega)):=fun{i} hi=>(congrArg (fun y:List uv=>y[i]?) hW).trans (List.getElem?_zip_eq_some.mpr ⟨by rw[Jj,Jf hi];rfl,Jf (by omega)⟩)
 have NU:Ch (x,b) (W.drop j) (x,b):=by
  have h1:=ch.drop (j:=j) (by rw[<-hW];exact M1 Fv)
  have h2:L[j].2=(x,b):=by
   rw[Jj,Jf Fv] at hj
   exact Option.some.inj hj
  rw[<-hW,h2] at h1
  exact h1
 have Pk:W.drop j≠[]:=fun z=>by
  have:=congrArg Ur z
  rw[J9,Wl,Yx] at this
  omega
 have Pl:∀t∈W.drop j,t.2∈B:=fun t ht=>by
  have ht:=Ww ht
  rw[hW] at ht
  exact oq _ (Wm (a:=t.1) (b:=t.2) ht).2
 clear ch
 refine⟨_,rfl,a,_,rfl,d9.of ha,rfl,_,_,rfl,_,_,rfl,rfl,?_⟩
 rw[show(List.set _ _ _:L2.St)=[some (.ref l),some (.ref d),some (.str x),some (.ref sp),some (.ref np),some (.ref a),x6,some (.bl b),none,none,none] from rfl]
 dsimp only
 refine cj (te:=HG _ _ _ _) (fun v H'=>ck fun(p6:Addr) (ss:List Addr)=>v = .ref p6/\aw H4 H'/\H' p6=some (.lst (ss.map V.ref))/\C7 H' ss (W.drop j)) (fun Qn qn =>?_) ?_
 ·refine⟨_,rfl,_,rfl,sp,np,_,_,rfl,aE.of pZ,aE.of hnp,fun H5 p5 as5 sm5 yG hp5' hal5 hpairs5 =>?_⟩
  have Ig:∀e∈(L.map (·.2)).map kP,SeqAt.shaped e=true:=fun e he=>by
   refine ae.el (J1.mp he) _ ?_
   rintro y hy rfl
   refine ae.el (J1.mp hy) _ ?_
   rintro z hz rfl
   exact(nh (b:=z.2.2) ((hLl z hz).bin gB)).shaped (by decide)
  have ML:gH K H5 L:=hL.keep fun a vs e=>sm5 _ _ e
  have A2:Den K H5 (kP (x,b)) (.ref a):=by
   have:=(gH.den (K:=K) (H:=H5) (L:=[(a,x,b)]) fun z hz=>by rw[Jg.mp hz];exact sm5 _ _ ha)
   unfold aL at this
   obtain⟨v,r,e,h1,_⟩:=this
   cases e
   exact h1
  have FD:=sm5 _ _ pZ
  refine⟨_,rfl,.inl ⟨rfl,_,aE.of FD⟩,_,rfl,sp,_,.ref a,kP (x,b),_,j,rfl,rfl,FD,A2,ML.den,(nh (hx.bin gB)).1,Ig,⟨kP (x,b),by rw[Jj,hj];rfl,by rw[jX];exact decide_eq_true rfl⟩,fun m e hm he =>?_,_,rfl,?_⟩
  ·rw[Jj] at he
   cases hy:(L.map (·.2))[m]? with
   | none=>rw[hy] at he;cases he
   | some y=>
    rw[hy] at he
    cases he
    rw[jX]
    exact decide_eq_false fun z=>hjm m hm (by rw[hy,z])
  dsimp only[fD]
  refine .inl ⟨p5,_,rfl,aE.of hp5',fun p6 H6 n6 =>?_⟩
  rw[vL,<-List.map_drop] at n6
  have OG:as5.length=L.length:=by rw[hal5];simp only[Ja];omega
  have AF:=sm5.trans n6.same
  have lA:C7 H6 (as5.drop j) (W.drop j):=⟨by rw[J9,J9,OG,Wl],fun i hi=>by
   rw[J9,Wl] at hi
   have e1:as5[j+i]? = some (as5[j+i]'(by omega)):=Jf (by omega)
   have e2:(L.map fun z=>V.ref z.1)[j+i]? = some (.ref (L[j+i]'(by omega)).1):=by rw[Jj,Jf (by omega)];rfl
   have e3:((qs.map (·.1)).map V.str)[j+i]? = some (.str (qs[j+i]'(by omega)).1):=by rw[Jj,Jj,Jf (by omega)];rfl
   have e4:(W.drop j)[i]'(by rw[J9,Wl];omega)=((L[j+i]'(by omega)).2,qs[j+i]'(by omega)):=by
    rw[List.getElem_drop]
    have:=M1 (i:=j+i) (by omega)
    rw[Jf (by omega)] at this
    exact Option.some.inj this
   rw[e4]
   refine⟨as5[j+i]'(by omega),(L[j+i]'(by omega)).1,?_,n6.same _ _ (hpairs5 _ _ _ _ e1 e2 e3).2,n6.same _ _ (ML _ (Jt (show j+i<L.length by omega)))⟩
   rw[Jj,List.getElem?_drop,e1];rfl⟩
  exact qn _ _ ⟨p6,_,rfl,AF,n6.at,lA⟩
 intro v H6
 refine ae.go ?_
 rintro p6 ss rfl AF h6 lA
 refine gn ?_
 have dl:(W.drop j).length<=416:=by rw[J9];omega
 refine cj (te:=dU _ _ _ _ _ _) (fun v H'=>∃p,v = .ref p/\dz H6 p (.lst (((su b (W.drop j)).map (·.1)).map V.str)) H') (fun Qn qn=>sU (fun c => !(c==b)) (fun c H Q h =>.inl ⟨rfl,by rw[Az];exact h⟩) dl h6 lA fun p H' n=>qn _ _ ⟨p,rfl,n⟩) ?_
 rintro v H7 ⟨p7,rfl,n7⟩
 refine gn ?_
 have Pz:=n7.same _ _ h6
 refine cj (te:=dU _ _ _ _ _ _) (fun v H'=>∃p,v = .ref p/\dz H7 p (.lst (((tV b (W.drop j)).map (·.1)).map V.str)) H') (fun Qn qn=>sU (fun c=>c==b) (fun c H Q h =>.inl ⟨rfl,by rw[Az];exact h⟩) dl Pz (lA.same n7.same) fun p H' n=>qn _ _ ⟨p,rfl,n⟩) ?_
 rintro v H8 ⟨p8,rfl,n8⟩
 refine gn ?_
 have CT:=n8.same _ _ n7.at
 have s6:aw H H6:=s4.trans AF
 have sH:aw H H8:=s6.trans (n7.same.trans n8.same)
 have De:=hx.len gB
 have Om:sg x≠[]:=fun z=>by
  have e:x.length=(sg x).length:=str_len x
  rw[z] at e
  have:x.length=0:=e
  omega
 have rg:=Ch.ring (fun q hq=>sW gB hq) NU Pl Om Pk
 have lN:(su b (W.drop j)).length<=416:=by
  rw[su,Ja]
  exact Js (U5 _ _) dl
 have lO:(tV b (W.drop j)).length<=416:=by
  rw[tV,Ja]
  exact Js (U5 _ _) dl
 dsimp only at rg
 generalize su b (W.drop j)=us at rg n7 CT lN
 generalize tV b (W.drop j)=ws at rg n8 lO
 have tl:(mE us).length<=12*us.length:=by
  rw[kQ]
  exact eh gB rg.o1
 rw[<-kQ us] at rg
 have back:∀{a:Addr},H6 a=none->H a=none:=fun{a} h=>by
  cases e:H a with
  | none=>rfl
  | some o=>rw[s6 _ _ e] at h;cases h
 refine⟨_,rfl,_,rfl,_,rfl,_,rfl,l,p7,B,us,rfl,hB.same sH,gB,rg.o1,by omega,aE.of CT,fun H9 s9 =>?_⟩
 refine⟨_,_,rfl,⟨sizeOk (by omega),rfl⟩,_,rfl,_,_,rfl,⟨sizeOk (by omega),rfl⟩,_,_,rfl,rfl,by show 3<=sizeLine;decide,fun z H10 n10 =>?_⟩
 exact q z H10 (sH.trans (s9.trans n10.same)) ⟨p7,p8,_,us,ws,back n7.nn,back (n7.back n8.nn),aj n7.at n8.nn,n10.at,n10.same _ _ (s9 _ _ CT),n10.same _ _ (s9 _ _ n8.at),rg,by omega,by omega⟩
end
def Bk (K:Jb):Sp:=fun vs H Q _=>ck fun(l:Addr) (B:List (Str×Str))=>vs=[.ref l]/\oh K H B l/\bT B/\(∀H',aw H H'->(∀r,fg B r->En (qC B) (sg r))->Q .non H') /\
 ∀(z:Addr) (H':Hp),aw H H'->GK B H H' z->(∃r,fg B r/\¬En (qC B) (sg r))->Q (.ref z) H'
theorem kF.en {B:List (Str×Str)}{E:List Str}(h:kF B E):∀(n:Nat) (E1:List Str) (r:Str) (E2:List Str),E1.length<=n->E=E1++r::E2->En (qC B) (sg r)
 | n,E1,r,E2,hn,e =>.mk _ fun c hc s hl=>by
  obtain⟨q,hq,rfl⟩:=iL.mp hc
  have hb:Bh q r (toS s):=nG.mpr (by rw[mV];exact hl)
  obtain⟨F1,F2,e1⟩:=List.append_of_mem (h E1 r E2 e q hq _ hb)
  cases n with
  | zero=>
   have:=congrArg Ur e1
   rw[Jc,Jx] at this
   omega
  | succ n=>
   have:=h.en n F1 (toS s) (F2++r::E2) (by
    have:=congrArg Ur e1
    rw[Jc,Jx] at this
    omega) (by rw[e,e1,Ug,List.cons_append])
   rw[mV] at this
   exact this
theorem kF.all {B:List (Str×Str)}{E:List Str}(h:kF B E){r:Str}(hr:r∈E):En (qC B) (sg r):=by
 obtain⟨E1,E2,e⟩:=List.append_of_mem hr
 exact h.en E1.length E1 r E2 (Jd _) e
section
variable {P:Program}{w:World}{K:Jb}{mg:Str->Option Value}{base:Heap}{f:Addr}{fd:FuncData}
theorem eI:aO ["book", "ending", "endless"] ["book"] (aB (top fK)):=⟨rfl,rfl,rfl,by decide +kernel,rfl,by decide +kernel,by decide +kernel⟩
theorem GF (F:dh K "never_ring" "never_ring" (top fK) f fd)(T:Nm mg)(lP:Fn P w K mg base 5 "ending_lags" ["book"] (zr K))(jg:Fn P w K mg base 4 "lags_of" ["book"] (wx K))(qf:Fn P w K mg base 4 "ring_from" ["book", "ending", "lag"] (zK K)):bM P w K mg base gU 6 f fd ["book"] (Bk K):=by
 refine F.ok eI (fun vs H Q E h =>?_) (fun dG A outer s H vs Q E hr h =>?_)
 ·obtain⟨l,B,rfl,_⟩:=h
  rfl
 obtain⟨l,B,rfl,hB,gB,q0,q1⟩:=h
 have hu:=eY hr
 have fO:=hr.units
 have small:∀{n:Nat},n<=1000->n<sizeLine:=fun h=>Jy h (by decide)
 refine⟨_,(ah (aI (i:=1) eI.nd rfl (Or.inr rfl) (aY (lP.mono (by decide)) hr rfl (aa (pv 0) ag)))
  (ah (bw (i:=2) eI.nd rfl (Or.inl rfl) rfl (aN (Nc:=["lag"]) (Fc:=["ending"]) (js:=[1])) (fV K (aY (jg.mono (by decide)) hr rfl (aa (pv 0) ag))) (aA (i:=0) (n:=1) (by decide)) (fun _ _ _ _ _=>(ai (i:=0) (dX ["lag", "ending"]) rfl (Or.inl rfl))) (fun _ _ _ _ _=>(cO (fX (cI hu (pv 0) (pv 1))))) (fun _ _ _ _ _=>(pv 0)))
  (ah (bV (aG (yc K fO) (pv 2) (dy ag) (aM _)) (ak (aK cV)) aW)
  (ak (aK (aY (qf.mono (by decide)) hr rfl (aa (pv 0) (aa (pv 1) (aa (bK (i9 K) (pv 2) ao (fun _ _=>rfl)) ag))))))))),?_⟩
 refine⟨_,rfl,l,B,rfl,hB,gB,fun d E H1 s1 yn BJ _ ord eL ek=>gn ?_⟩
 dsimp only
 refine cj (te:=dU _ _ _ _ _ _) (fun v H'=>ck fun(p:Addr) (es:List Str)=>v = .ref p/\aw H H'/\H' d=some (.dK (E.map dA))/\H' p=some (.lst (es.map V.str))/\es.length<=200/\∀r,r∈es↔fg B r/\r∉E) (fun Qn qn =>?_) ?_
 ·refine⟨_,rfl,l,B,rfl,hB.same s1,gB,fun ts p2 H2 s2 hp20 uk nd tl mem =>?_⟩
  have fW:∀{i:Nat} (hi:i<ts.length),(ts.map V.str)[i]? = some (.str ts[i]):=fun hi=>by rw[Jj,Jf hi];rfl
  have hd2:=s2 _ _ BJ
  refine⟨p2,rfl,⟨_,aE.of uk⟩,?_⟩
  refine cX (N:=ts.length) (fun i ys H'=>H'=H2/\∃es:List Str,ys=es.map V.str/\es.length<=i/\∀r,r∈es↔r∈ts.take i/\r∉E) ⟨rfl,[],rfl,Jd _,fun r=>⟨(fun h=>nomatch h),fun h=>nomatch h.1⟩⟩ ?_ ?_
  ·intro i ys H3 Ny hi hz_ ny
   refine ae.el hz_ _ ?_
   clear hz_
   rintro rfl es rfl el vS
   refine⟨⟨_,_,aE.of uk,fW hi⟩,small (by rw[Ja];omega),?_⟩
   rintro y H4 ⟨rfl,hy⟩
   have e:=hy _ (aE.of uk)
   rw[fW hi] at e;cases e
   have cC:=aH hi
   generalize ts[i]=x at cC
   cases hv:az (E.map dA) (.inr x) with
   | none=>
    have yg:x∉E:=fun z=>by rw[<-fF,hv] at z;cases z
    refine gn ⟨_,rfl,_,rfl,d,none,rfl,.inl ⟨_,.inr x,.inl hd2,rfl,hv.symm⟩,_,rfl,e7 ⟨_,rfl,ny _ _ ⟨rfl,es++[x],by rw[Jh];rfl,by rw[Jc];exact Wh el,fun r =>?_⟩⟩⟩
    rw[cC,Ji,Ji,vS,Jg]
    exact⟨fun h=>h.elim (fun h=>⟨.inl h.1,h.2⟩) fun h=>⟨.inr h,h▸yg⟩,fun h=>h.1.imp (fun z=>⟨z,h.2⟩) id⟩
   | some v=>
    have yg:x∈E:=fF.mp (by rw[hv];rfl)
    refine gn ⟨_,rfl,_,rfl,d,some v,rfl,.inl ⟨_,.inr x,.inl hd2,rfl,hv.symm⟩,_,rfl,bA (ny _ _ ⟨rfl,es,rfl,by omega,fun r =>?_⟩)⟩
    rw[cC,Ji,vS,Jg]
    exact⟨fun h=>⟨.inl h.1,h.2⟩,fun h=>⟨h.1.resolve_right fun z=>h.2 (z▸yg),h.2⟩⟩
  ·intro ys H3
   refine ae.go ?_
   rintro rfl es rfl el vS
   rw[Jz] at vS
   exact⟨⟨_,aE.of uk,by rw[Ja];exact Jd _⟩,fun p H4 n4=>qn _ _ ⟨p,es,rfl,s1.trans (s2.trans n4.same),n4.same _ _ hd2,n4.at,by omega,fun r=>by rw[vS,mem]⟩⟩
 intro v H2
 refine ae.go ?_
 rintro p es rfl s2 hd2 uk el vS
 refine gn ?_
 have rR:∀x∈es,jJ x:=fun x hx=>((vS x).mp hx).1.bin gB
 refine⟨_,rfl,by show 0<=sizeLine;decide,fun p5 H5 n5 =>.inr ⟨_,_,Den.list (aE.of (n5.same _ _ uk)) (Den.strs _),Den.list (aE.of n5.at) (by unfold aL;rfl),nV rR,gK,_,rfl,?_⟩⟩
 rw[hX]
 have s5:=s2.trans n5.same
 cases es with
 | nil=>exact e7 (q0 _ s5 fun r hr=>ord.all (Classical.byContradiction fun z=>nomatch(vS r).mpr ⟨hr,z⟩))
 | cons x es=>
  obtain⟨hx,yg⟩:=(vS x).mp Jn
  refine bA ⟨_,rfl,_,rfl,_,rfl,.inl ⟨p,_,0,.str x,rfl,rfl,aE.of (n5.same _ _ uk),ic (by decide) rfl,?_⟩⟩
  have back:∀{a:Addr},H5 a=none->H a=none:=fun{a} h=>by
   cases e:H a with
   | none=>rfl
   | some o=>rw[s5 _ _ e] at h;cases h
  refine⟨l,d,B,E,x,rfl,hB.same s5,gB,n5.same _ _ hd2,⟨ek⟩,hx,yg,fun z H' s' rg=>q1 z H' (s5.trans s') ?_ ⟨x,hx,fun he=>yg (he.mem ek x hx rfl)⟩⟩
  unfold GK at rg
  refine ae.el rg _ ?_
  rintro p q n ps qs h1 h2 h3 h4 h5 h6 h7 h8 h9
  exact⟨p,q,n,ps,qs,back h1,back h2,h3,h4,h5,h6,h7,h8,h9⟩
end
def pO (K:Jb):Sp:=qS K
theorem xZ.den {K:Jb}{H:Hp}{p:Addr}{ps:List (Str×Str)}(h:xZ K H p ps):Den K H (.list ((ps.map (·.1)).map PyData.str)) (.ref p):=Den.list h (Den.strs _)
section
variable {P:Program}{w:World}{K:Jb}{mg:Str->Option Value}{base:Heap}{f:Addr}{fd:FuncData}{C:Addr}
theorem qR:aO ["book", "thing"] ["book", "thing"] (aB (top jh)):=⟨rfl,rfl,rfl,by decide +kernel,rfl,by decide +kernel,by decide +kernel⟩
theorem BF (F:dh K "text_of" "text_of" (top jh) f fd)(T:Nm mg)(j9:mg "NoName" = some (.ref C))(jr:Fn P w K mg base 1 "written" ["book", "names"] (qS K)):bM P w K mg base gU 2 f fd ["book", "thing"] (pO K):=by
 refine F.ok qR (fun vs H Q E h =>?_) (fun dG A outer s H vs Q E hr h =>?_)
 ·unfold pO qS at h
  refine ae.el h _ ?_
  rintro l p B ps rfl _ _ _ _ _ _
  rfl
 unfold pO qS at h
 refine ae.el h _ ?_
 clear h
 rintro l p B ps rfl hB gB o hlen hp q
 refine⟨_,(ah (bV (PW.pt (eX (d6 (cQ (au (lJ K) rfl T.n_isinstance (by rfl) (aa (pv 1) (aa (dr rfl T.n_list (by rfl) (v := .ty "list") rfl) ag))))) (gc (d6 (cQ (au (vW K rfl) rfl T.n_all (by rfl) (aa (bC rfl (aN (Nc:=["name"]) (Fc:=[]) (js:=[])) (fV K (pv 1)) (aA (i:=0) (n:=1) (by decide)) (fun _ _ _ _ _=>(ai (i:=0) (dX ["name"]) rfl (Or.inl rfl))) (fun _ _ _ _ _=>br) (fun _ _ _ _ _=>(au (lJ K) rfl T.n_isinstance (by rfl) (aa (pv 0) (aa (dr rfl T.n_str (by rfl) (v := .ty "str") rfl) ag))))) ag))))))) (ak (aK cV)) aW)
  (ak (yB rfl rfl rfl j9 (fun _ _ _=>(ak (aK (aY (jr.mono (by decide)) hr rfl (aa (pv 0) (aa (pv 1) ag)))))) (fun _=>(ak (aK cV)))))),?_⟩
 refine⟨_,rfl,.inl ⟨_, "list",_,true,rfl,hp.den,(lM K (.list _)).2.2.2.1,_,rfl,?_⟩⟩
 refine bA ⟨_,rfl,p,rfl,⟨_,hp⟩,?_⟩
 refine bF (N:=ps.length) (fun i ys H'=>H'=H/\ys=(Jq i true).map V.bl) ⟨rfl,rfl⟩ ?_ ?_
 ·rintro i ys H1 Ny hi ⟨rfl,rfl⟩ ny
  refine⟨⟨_,_,hp,fL hi⟩,by rw[Ja,Uy];exact Jy (show i<=1000 by omega) (by decide),?_⟩
  rintro x' H2 ⟨rfl,hy⟩
  have e:=hy _ hp
  rw[fL hi] at e;cases e
  refine gn ⟨_,rfl,.inl ⟨_, "str",.str ps[i].1,true,rfl,by unfold Den;rfl,(lM K (.str _)).2.2.1,ny _ _ ⟨rfl,?_⟩⟩⟩
  rw[List.replicate_succ',Jh];rfl
 ·rintro ys H1 ⟨rfl,rfl⟩
  refine⟨⟨_,hp,by rw[jm];exact Jd _⟩,fun p3 hp3 =>?_⟩
  have n3:dz H1 p3 (.lst ((Jq ps.length true).map V.bl)) (upd H1 p3 (.lst ((Jq ps.length true).map V.bl))):=⟨hp3,rfl⟩
  generalize upd H1 p3 (.lst ((Jq ps.length true).map V.bl))=H3 at n3 ⊢
  refine⟨p3,_,rfl,aE.of n3.at,_,rfl,?_⟩
  rw[show(Jq ps.length true).all id=true by rw[Y8];intro x hx;exact(List.mem_replicate.mp hx).2]
  refine bA ⟨fun _ _ _=>False,⟨_,rfl,_,rfl,l,p,B,ps,rfl,hB.same n3.same,gB,o,hlen,n3.same.seq hp,fun H' s'=>q _ (n3.same.trans s')⟩,?_⟩
  exact fun _ _ _ h=>h.elim
end
noncomputable def nM (ps:List (Str×Str)):List V:=(jO ps).map fun n:Nat=>V.int (n:Int)
theorem iR (ps:List (Str×Str)):(nM ps).length=ps.length:=by unfold nM;rw[Ja,dm]
theorem pE {ps:List (Str×Str)}{i:Nat}(hi:i<ps.length):nM (ps.take i)++[.int ((tx (ps.take i)).length:Nat)]=nM (ps.take (i+1)):=by
 have h1:(ps.take i).length=i:=by rw[Jr];omega
 have h2:(ps.take (i+1)).length=i+1:=by rw[Jr];omega
 unfold nM jO
 rw[h1,h2,List.range_succ,Jh,Jh,Ym,Ym]
 congr 1
 ·refine List.map_congr_left fun j hj =>?_
  have:=Y9.mp hj
  show V.int ((tx ((ps.take i).take j)).length:Nat)=V.int ((tx ((ps.take (i+1)).take j)).length:Nat)
  rw[List.take_take,List.take_take,Ye (by omega),Ye (by omega)]
 ·show[V.int _]=[V.int ((tx ((ps.take (i+1)).take i)).length:Nat)]
  rw[List.take_take,Ye (by omega)]
theorem sL {ps:List (Str×Str)}{i:Nat}(hi:i<ps.length):(tx (ps.take (i+1))).length=(tx (ps.take i)).length+ps[i].2.length:=by
 rw[aH hi,qW,Jc,rL,str_len]
theorem xI {B ps:List (Str×Str)}(g:bT B)(o:Of B ps)(hl:ps.length<=1000)(i:Nat):(tx (ps.take i)).length<=12000:=by
 have h:=eh (ps:=ps.take i) g fun q hq=>o q (Wu hq)
 rw[Jr] at h
 omega
noncomputable def MG (bk:List (Str×Str)):List (Key×V):=bk.map fun q=>(.inr q.1,.int (q.2.length:Nat))
theorem bT.Ip {bk:List (Str×Str)}(g:bT bk){q:Str×Str}(h:q∈bk):az (MG bk) (.inr q.1)=some (.int (q.2.length:Nat)):=
 m7 (f:=fun q:Str×Str=>((.inr q.1:Key),V.int (q.2.length:Nat))) h rfl fun y hy e=>by
  rw[vC g.nm hy h (by injection e)]
theorem A7 {K:Jb}{bk:List (Str×Str)}{l:Addr}{tk tv:TE}{f:Str×Str->Key×V}(nd:(bk.map fun q=>(f q).1).Nodup)(hle:bk.length<=100)(hk:∀(q:Str×Str) (H:Hp) (Q:VK),q∈bk->Q (kV (f q).1) H->tk [some (.str q.1),some (.str q.2)] H Q)
  (hv:∀(q:Str×Str) (H:Hp) (Q:VK),q∈bk->Q (f q).2 H->tv [some (.str q.1),some (.str q.2)] H Q) {σ:L2.St} {D:Addr} {H:Hp} (hB:oh K H bk l) (hD:H D=none) {fin:Hp->Prop} (q:fin (upd H D (.dK (bk.map f)))) :
  tL (Hh K l) 2 [] (pC K 2 (gw (di 0) (gw (di 1) qV))) kN tk tv σ D (upd H D (.dK [])) fin:=by
 obtain⟨vs,hl,hd⟩:=hB
 have hlen:=hZ hd
 refine⟨fun i m H'=>m=bk.length-i/\i<=bk.length/\H'=upd H D (.dK ((bk.take i).map f)),⟨_,rfl,Uq _,rfl⟩,?_⟩
 intro i m H'
 refine ae.go ?_
 rintro rfl hi rfl
 have sm:aw H (upd H D (.dK ((bk.take i).map f))):=bS hD _
 by_cases cc:i<bk.length
 ·refine ae.el (jG hd cc) _ ?_
  rintro tp h1 h2
  refine .inr ⟨⟨_,_,sm.seq hl,h1⟩,?_⟩
  rintro x H2 ⟨rfl,hy⟩
  have e:=hy _ (sm.seq hl)
  rw[h1] at e;cases e
  refine⟨tp,_,rfl,sm.rJ h2,rfl,_,_,rfl,_,_,rfl,rfl,?_⟩
  dsimp only[kN]
  rw[if_pos rfl]
  refine hk bk[i] _ _ (Jt cc) (hv bk[i] _ _ (Jt cc) ⟨(bk.take i).map f,(f bk[i]).1,aJ,rfl,?_,bk.length-(i+1),by omega,rfl,cc,?_⟩)
  ·rw[Ja,Jr]
   exact Jy (show min i bk.length<=20000 by omega) (by decide)
  ·rw[cM _ (fY fun y hy e =>?_),tF,aH cc,Jh]
   ·rfl
   ·have h3:=U3.mp nd
    refine ae.el (U2.mp hy) _ ?_
    rintro j hj rfl
    rw[Jr] at hj
    rw[List.getElem_take] at e
    exact absurd (by rw[Yf,Yf];exact e) (Ux.mp h3 j i (by rw[Ja];omega) (by rw[Ja];omega) (by omega))
 ·have e:i=bk.length:=by omega
  subst e
  refine .inl ⟨⟨_,sm.seq hl,by omega⟩,?_⟩
  rw[Jz];exact q
def wm (K:Jb):Sp:=fun vs H Q _=>∃n:Int,vs=[.int n]/\Q (.bl true) H
def Bn (K:Jb):Sp:=fun vs H Q _=>om fun(l p:Addr) (B ps:List (Str×Str))=>vs=[.ref l,.ref p]/\oh K H B l/\bT B/\ps.length<=1000/\aE K H p ((ps.map (·.1)).map V.str)/\Of B ps/\∀b H',aw H H'->H' b=some (.lst (nM ps))->Q (.ref b) H'
section
variable {P:Program}{w:World}{K:Jb}{mg:Str->Option Value}{base:Heap}{f:Addr}{fd:FuncData}
theorem nj:aO ["thing"] ["thing"] (aB (top fZ)):=⟨rfl,rfl,rfl,by decide +kernel,rfl,by decide +kernel,by decide +kernel⟩
theorem Cr (F:dh K "is_number" "is_number" (top fZ) f fd)(T:Nm mg):bM P w K mg base gU 1 f fd ["thing"] (wm K):=by
 refine F.ok nj (fun vs H Q E h =>?_) (fun dG A outer s H vs Q E hr h =>?_)
 ·obtain⟨n,rfl,_⟩:=h
  rfl
 obtain⟨n,rfl,q⟩:=h
 refine⟨_,(ak (aK (Be (au (lJ K) rfl T.n_isinstance (by rfl) (aa (pv 0) (aa (dr rfl T.n_int (by rfl) (v := .ty "int") rfl) ag))) (Cw (wk (au (lJ K) rfl T.n_isinstance (by rfl) (aa (pv 0) (aa (dr rfl T.n_bool (by rfl) (v := .ty "bool") rfl) ag)))))))),?_⟩
 have hv:Den K H (.int n) (.int n):=by unfold Den;rfl
 exact⟨_,rfl,.inl ⟨_, "int",_,true,rfl,hv,(lM K (.int n)).2.1,⟨_,rfl,e7 ⟨_,rfl,.inl ⟨_, "bool",_,false,rfl,hv,(lM K (.int n)).1,_,rfl,q⟩⟩⟩⟩⟩
theorem cE:aO ["book", "names", "lengths", "begins", "end", "name"] ["book", "names"] (aB (top gz)):=⟨rfl,rfl,rfl,by decide +kernel,rfl,by decide +kernel,by decide +kernel⟩
theorem DZ (F:dh K "begins_of" "begins_of" (top gz) f fd)(T:Nm mg):bM P w K mg base gU 1 f fd ["book", "names"] (Bn K):=by
 refine F.ok cE (fun vs H Q E h =>?_) (fun dG A outer s H vs Q E hr h =>?_)
 ·obtain⟨l,p,B,ps,rfl,_⟩:=h
  rfl
 obtain⟨l,p,B,ps,rfl,hB,gB,hl,hp,o,q⟩:=h
 have hu:=eY hr
 have hle:=gB.le
 refine⟨_,(ah (ph (i:=2) cE.nd rfl (Or.inl rfl) rfl (aN (Nc:=["name", "code"]) (Fc:=[]) (js:=[])) (fV K (pv 0)) (dP (aP (aA (i:=0) (n:=2) (by decide)) (aP (aA (i:=1) (n:=2) (by decide)) cY aF aX) aF (bf aF aX))) (fun _ _ _ _ _=>(tupK K 2 rfl (ar (ai (i:=0) (dX ["name", "code"]) rfl (Or.inl rfl)) (ar (ai (i:=1) (dX ["name", "code"]) rfl (Or.inl rfl)) bt)))) (fun _ _ _ _ _=>br) (fun _ _ _ _ _=>(pv 0)) (fun _ _ _ _ _=>(au (dv K) rfl T.n_len (by rfl) (aa (pv 1) ag))))
  (ah (aI (i:=3) cE.nd rfl (Or.inl rfl) (dy ag))
  (ah (aI (i:=4) cE.nd rfl (Or.inl rfl) ao)
  (ah (dF PassesOwn.never rfl (fV K (pv 1)) (ai (i:=5) cE.nd rfl (Or.inl rfl)) (ah (cH (oj K PySem.F.plainAttrs_list PySem.F.slot_list_append PySem.F.type_list_append gW (pv 3) (aa (pv 4) ag)))
  (ak (Cy (i:=4) cE.nd rfl (Or.inl rfl) (cu hu (pv 2) (pv 5) (fun _ _=>rfl)) B1))))
  (ak (aK (pv 3))))))),?_⟩
 refine cj (te:=je _ _ _ _ _ _ _) (fun v H'=>∃D,v = .ref D/\dz H D (.dK (MG B)) H') (fun Qn qn =>?_) ?_
 ·obtain⟨vs,hl,hd⟩:=id hB
  refine⟨_,rfl,l,rfl,⟨_,hl⟩,fun D hD=>A7 (f:=fun q=>(.inr q.1,.int (q.2.length:Nat))) (jt gB.nm) (by omega) (fun q H Q _ h=>⟨_,rfl,h⟩) (fun q H Q hq h=>⟨_,rfl,_,_,rfl,⟨sizeOk ?_,rfl⟩,h⟩) hB hD (qn _ _ ⟨D,rfl,hD,rfl⟩)⟩
  have:=(gB.cd q hq).le
  omega
 intro v H1
 refine ae.go ?_
 rintro D rfl n1
 refine gn ?_
 refine⟨by show 0<=sizeLine;decide,fun b H2 n2=>gn ?_⟩
 dsimp only
 refine cj (te:=tC _) (fun v H'=>v = .int 0/\H2=H') (fun Qn qn=>qn _ _ ⟨rfl,rfl⟩) ?_
 rintro _ _ ⟨rfl,rfl⟩
 refine gn ?_
 have eU:=n1.same.seq hp
 have tc:=xI gB o hl
 refine cb (t:=lB _ _ _) (fun σ H'=>ck fun(x4 x5:Option V) =>σ=[some (.ref l),some (.ref p),some (.ref D),some (.ref b),x4,x5]/\aw H1 H'/\H' b=some (.lst (nM ps))) (fun Nx nx =>?_) ?_
 ·refine⟨_,rfl,p,rfl,⟨_,n2.same.seq eU⟩,?_⟩
  refine eJ (N:=ps.length) (fun i σ H'=>∃x5,σ=[some (.ref l),some (.ref p),some (.ref D),some (.ref b),some (.int ((tx (ps.take i)).length:Nat)),x5]/\aw H1 H'/\H' b=some (.lst (nM (ps.take i)))) ⟨none,rfl,n2.same,n2.at⟩ ?_ ?_
  ·intro i σ H3 hi
   refine ae.go ?_
   rintro x5 rfl s3 hb
   refine⟨⟨_,_,s3.seq eU,fL hi⟩,?_⟩
   rintro x H4 ⟨rfl,hy⟩
   have e:=hy _ (s3.seq eU)
   rw[fL hi] at e;cases e
   refine gn ⟨_,rfl,.inl ⟨rfl,_,aE.of hb⟩,_,rfl,b,_,_,rfl,rfl,hb,?_,fun H5 c5 =>?_⟩
   ·rw[iR,Jr];exact Jy (show min i ps.length<=1000 by omega) (by decide)
   have s5:aw H1 H5:=fun a o e=>by rw[c5.ne (aj e n2.nn)];exact s3 a o e
   refine⟨_,rfl,_,rfl,_,rfl,D,_,rfl,.inl ⟨_,.inr ps[i].1,.inl (s5 _ _ n1.at),rfl,(gB.Ip (o _ (Jt hi))).symm⟩,_,_,rfl,rfl,gn ⟨some (.str ps[i].1),?_,s5,by rw[c5.at,pE hi]⟩⟩
   rw[sL hi];rfl
  ·intro σ H3
   refine ae.go ?_
   rintro x5 rfl s3 hb
   rw[Jz] at hb
   exact⟨⟨_,s3.seq eU,by rw[jm];exact Jd _⟩,nx _ _ ⟨_,_,rfl,s3,hb⟩⟩
 intro σ H3
 refine ae.go ?_
 rintro x4 x5 rfl s3 hb
 exact⟨_,rfl,q _ _ (n1.same.trans s3) hb⟩
end
theorem BR {kvs:List (Key×V)}{k:Key}{v:V}:(putK kvs k v).length<=kvs.length+1:=by
 unfold putK
 split
 ·rw[Ja];omega
 ·rw[Jc];exact Jd _
theorem wD {x:Str}(j:Nat):sg (Txt.slice x none (some (j:Int)))=(sg x).take j:=by
 have e:Txt.slice x none (some (j:Int))=Txt.slice x (some ((0:Nat):Int)) (some (j:Int)):=by
  unfold Txt.slice
  have:PySem.Builtin.Str.strSliceIndices none (some (j:Int)) 1 x.length=PySem.Builtin.Str.strSliceIndices (some ((0:Nat):Int)) (some (j:Int)) 1 x.length:=by
   unfold PySem.Builtin.Str.strSliceIndices
   dsimp only
   congr 1
   all_goals simp
  rw[this]
 rw[e,Cu (Uq _) (Uq _)]
 rfl
noncomputable def yi (ps:List (Str×Str))(m:Nat):Str:=Txt.slice (mE ps) (some (m:Int)) none++Txt.slice (mE ps) none (some (m:Int))
theorem BN (ps:List (Str×Str))(m:Nat):sg (yi ps m)=(tx ps).drop m++(tx ps).take m:=by
 unfold yi
 rw[jv,eW,wD,qj]
theorem zT (x:Str)(m:Nat):(Txt.slice x (some (m:Int)) none).length<=x.length:=by
 rw[str_len,str_len]
 show(sg _).length<=(sg x).length
 rw[eW,J9];omega
theorem zS (x:Str)(m:Nat):(Txt.slice x none (some (m:Int))).length<=x.length:=by
 rw[str_len,str_len]
 show(sg _).length<=(sg x).length
 rw[wD,Jr];omega
theorem oz {K:Jb}{H:Hp}{z p0 p1:Addr}{ps qs:List (Str×Str)}{n:Int}(hz:d9 K H z [.ref p0,.ref p1,.int n])(sf:xZ K H p0 ps)(eU:xZ K H p1 qs):Den K H (.tuple [.list ((ps.map (·.1)).map PyData.str),.list ((qs.map (·.1)).map PyData.str),.int n]) (.ref z):=by
 unfold Den
 refine⟨z,_,rfl,hz,?_⟩
 unfold aL
 refine⟨_,_,rfl,sf.den,?_⟩
 unfold aL
 refine⟨_,_,rfl,eU.den,?_⟩
 unfold aL
 refine⟨_,_,rfl,(by unfold Den;rfl),?_⟩
 unfold aL
 rfl
def lH (K:Jb):Sp:=fun vs H Q _=>Hu fun(l z p0 p1:Addr) (B ps qs:List (Str×Str)) (n:Int) (_:Unit)=>vs=[.ref l,.ref z]/\oh K H B l/\bT B/\d9 K H z [.ref p0,.ref p1,.int n]/\xZ K H p0 ps/\xZ K H p1 qs/\Hz B ps qs n/\ps.length<=420/\qs.length<=420/\∀H',aw H H'->Q (.bl true) H'
theorem gT {xs:List (Str×Str)}{i:Nat}(hi:i<xs.length):(nM xs)[i]? = some (.int (((jO xs)[i]'(by rw[dm];exact hi):Nat):Int)):=by
 unfold nM
 rw[Jj,Jf (by rw[dm];exact hi)];rfl
theorem tD (n:Nat):(Jq n true).all id=true:=by
 rw[Y8];intro x hx;exact(List.mem_replicate.mp hx).2
section
variable {P:Program}{w:World}{K:Jb}{mg:Str->Option Value}{base:Heap}{f:Addr}{fd:FuncData}{C:Addr}
theorem cg:aO ["book", "thing", "one", "other", "place", "text", "begins"] ["book", "thing"] (aB (top fw)):=⟨rfl,rfl,rfl,by decide +kernel,rfl,by decide +kernel,by decide +kernel⟩
theorem EH (F:dh K "shows_ring" "shows_ring" (top fw) f fd)(T:Nm mg)(md:Fn P w K mg base 2 "text_of" ["book", "thing"] (pO K))(oW:Fn P w K mg base 1 "is_number" ["thing"] (wm K))(jC:Fn P w K mg base 1 "begins_of" ["book", "names"] (Bn K)):bM P w K mg base gU 3 f fd ["book", "thing"] (lH K):=by
 refine F.ok cg (fun vs H Q E h =>?_) (fun dG A outer s H vs Q E hr h =>?_)
 ·unfold lH at h
  refine ae.el h _ ?_
  rintro l z p0 p1 B ps qs n _ rfl _ _ _ _ _ _ _ _ _
  rfl
 unfold lH at h
 refine ae.el h _ ?_
 clear h
 rintro l z p0 p1 B ps qs n _ rfl hB gB hz sf eU rg lp lq q
 have hu:=eY hr
 have fO:=hr.units
 refine⟨_,(ah (bV (PW.pt (eX (d6 (cQ (au (lJ K) rfl T.n_isinstance (by rfl) (aa (pv 1) (aa (dr rfl T.n_tuple (by rfl) (v := .ty "tuple") rfl) ag))))) (gc (aG (rK K fO) (au (dv K) rfl T.n_len (by rfl) (aa (pv 1) ag)) ao (aM _))))) (ak (aK dZ)) aW)
  (ah (fq (pv 1) (tupK K 3 rfl (ar (ai (i:=2) cg.nd rfl (Or.inl rfl)) (ar (ai (i:=3) cg.nd rfl (Or.inl rfl)) (ar (ai (i:=4) cg.nd rfl (Or.inr rfl)) bt)))))
  (ah (aI (i:=5) cg.nd rfl (Or.inr rfl) (aY (md.mono (by decide)) hr rfl (aa (pv 0) (aa (pv 2) ag))))
  (ah (bV (PW.pt (eX (aG Ag (pv 5) cV (aM _)) (eX (d6 (cQ (aY (oW.mono (by decide)) hr rfl (aa (pv 4) ag)))) (gc (d6 (oK DX jE ao (pv 4) (au (dv K) rfl T.n_len (by rfl) (aa (pv 5) ag)))))))) (ak (aK dZ)) aW)
  (ah (bV (aG (rK K fO) (aY (md.mono (by decide)) hr rfl (aa (pv 0) (aa (pv 3) ag))) (aU dN (cw (yj K) (pv 5) (dc (pv 4)) cU) (cw (yj K) (pv 5) cU (dc (pv 4)))) (aM _)) (ak (aK dZ)) aW)
  (ah (aI (i:=6) cg.nd rfl (Or.inr rfl) (iP rfl (aN (Nc:=["at"]) (Fc:=[]) (js:=[])) (fV K (aY (jC.mono (by decide)) hr rfl (aa (pv 0) (aa (pv 2) ag)))) (aA (i:=0) (n:=1) (by decide)) (fun _ _ _ _ _=>(ai (i:=0) (dX ["at"]) rfl (Or.inl rfl))) (fun _ _ _ _ _=>br) (fun _ _ _ _ _=>(pv 0)) (fun _ _ _ _ _=>dZ)))
  (ak (aK (au (vW K rfl) rfl T.n_all (by rfl) (aa (bC rfl (aN (Nc:=["at"]) (Fc:=["begins", "place", "text"]) (js:=[6,4,5])) (fV K (aY (jC.mono (by decide)) hr rfl (aa (pv 0) (aa (pv 3) ag)))) (aA (i:=0) (n:=1) (by decide)) (fun _ _ _ _ _=>(ai (i:=0) (dX ["at", "begins", "place", "text"]) rfl (Or.inl rfl))) (fun _ _ _ _ _=>br) (fun _ _ _ _ _=>(rh (cI hu (aU fC (aU dN (pv 2) (pv 0)) (au (dv K) rfl T.n_len (by rfl) (aa (pv 3) ag))) (pv 1))))) ag)))))))))),?_⟩
 have Kk:=oz hz sf eU
 refine⟨_,rfl,.inl ⟨_, "tuple",_,true,rfl,Kk,(lM K (.tuple _)).2.2.2.2,_,rfl,bA ⟨_,rfl,_,_,rfl,.inr ⟨_,hz,rfl⟩,.inl ⟨rfl,_,rfl,bA ?_⟩⟩⟩⟩
 refine⟨_,rfl,z,_,rfl,hz,rfl,_,_,rfl,_,_,rfl,_,_,rfl,rfl,?_⟩
 have tl:=eh gB rg.o1
 have tq:=eh gB rg.o2
 have tS:=kQ ps
 have lo:=rg.lo
 have hi:=rg.hi
 obtain⟨m,rfl⟩:∃m:Nat,n=(m:Int):=⟨n.toNat,by omega⟩
 refine⟨_,rfl,_,rfl,l,p0,B,ps,rfl,hB,gB,rg.o1,by omega,sf,fun H1 s1=>gn ?_⟩
 dsimp only[kU]
 refine⟨_,rfl,.inl ⟨rfl,_,rfl,bA ⟨_,rfl,_,rfl,_,rfl,bA ⟨_,rfl,_,_,rfl,rfl,_,rfl,ee (fun c1 =>?_) (fun c1=>absurd (decide_eq_true lo) c1)⟩⟩⟩⟩
 refine⟨_,rfl,_,_,rfl,⟨sizeOk (by omega),rfl⟩,_,_,rfl,rfl,_,rfl,?_⟩
 rw[decide_eq_true (show(m:Int)<((mE ps).length:Nat) by omega)]
 refine bA ?_
 have eqT:mE qs=yi ps m:=fE (by
  have:=rg.eq
  rw[Uz] at this
  rw[qj,BN,this])
 refine⟨_,rfl,_,rfl,l,p1,B,qs,rfl,hB.same s1,gB,rg.o2,by omega,s1.seq eU,fun H2 s2 =>?_⟩
 refine⟨_,rfl,_,rfl,_,rfl,?_⟩
 dsimp only[fD]
 refine .inr ⟨_,rfl,sizeOk (by omega),⟨_,rfl,_,rfl,_,rfl,.inr ⟨_,rfl,sizeOk (by omega),.inr (.inl ⟨_,_,rfl,rfl,sizeOk ?_,?_⟩)⟩⟩⟩
 ·have h1:=zT (mE ps) m
  have h2:=zS (mE ps) m
  omega
 refine .inl ⟨rfl,_,rfl,?_⟩
 unfold yi at eqT
 rw[decide_eq_true (congrArg V.str eqT)]
 refine bA ?_
 clear eqT
 have CS:=s1.trans s2
 dsimp only[kU]
 refine cj (te:=je _ _ _ _ _ _ _) (fun v H'=>ck fun(D:Addr) (kvs:List (Key×V))=>v = .ref D/\aw H2 H'/\H' D=some (.dK kvs)/\∀k:Int,(az kvs (.inl k)).isSome=true ↔ ∃c∈jO ps,((c:Nat):Int)=k) (fun Qn qn =>?_) ?_
 ·refine⟨_,rfl,_,rfl,l,p0,B,ps,rfl,hB.same CS,gB,by omega,CS.seq sf,rg.o1,fun b H3 s3 hb =>?_⟩
  refine⟨b,rfl,⟨_,aE.of hb⟩,fun D hD =>?_⟩
  refine⟨fun i m H'=>∃kvs:List (Key×V),m=ps.length-i/\i<=ps.length/\aw H3 H'/\H' D=some (.dK kvs)/\kvs.length<=i/\∀k:Int,(az kvs (.inl k)).isSome=true ↔ ∃c∈(jO ps).take i,((c:Nat):Int)=k,⟨_,[],rfl,Uq _,bS hD _,aJ,Jd _,fun k=>⟨(fun h=>nomatch h),fun⟨c,h,_⟩=>nomatch h⟩⟩,?_⟩
  rintro i m' H4 ⟨kvs,rfl,hi,s4,Hm,kl,km⟩
  by_cases cc:i<ps.length
  ·refine .inr ⟨⟨_,_,aE.of (s4 _ _ hb),gT cc⟩,?_⟩
   rintro y H5 ⟨rfl,hy⟩
   have e:=hy _ (aE.of (s4 _ _ hb))
   rw[gT cc] at e;cases e
   refine gn ?_
   dsimp only[kN]
   rw[if_pos rfl]
   have cC:=aH (l:=jO ps) (i:=i) (by rw[dm];exact cc)
   generalize (jO ps)[i]'(by rw[dm];exact cc)=x at cC
   refine⟨_,rfl,kvs,.inl (x:Int),Hm,rfl,Jy (show kvs.length<=1000 by omega) (by decide),ps.length-(i+1),by omega,_,rfl,cc,fun b o e =>?_,aJ,Js BR (by omega),fun k =>?_⟩
   ·rw[aq (aj e hD)];exact s4 b o e
   ·rw[iJ,cC]
    by_cases hk:(Sum.inl k:Key) = .inl (x:Int)
    ·rw[if_pos hk]
     exact⟨fun _=>⟨x,Jk _ Jn,by injection hk with hk;exact hk.symm⟩,fun _=>rfl⟩
    ·rw[if_neg hk,km]
     refine⟨fun⟨c,h1,h2⟩=>⟨c,Ud _ h1,h2⟩,fun⟨c,h1,h2⟩=>?_⟩
     rcases Ji.mp h1 with h1|h1
     ·exact⟨c,h1,h2⟩
     ·rw[Jg.mp h1] at h2;exact absurd (by rw[h2]) hk
  ·have ei:i=ps.length:=by omega
   subst ei
   rw[U9 (by rw[dm];exact Jd _)] at km
   exact .inl ⟨⟨_,aE.of (s4 _ _ hb),by rw[iR];exact Jd _⟩,qn _ _ ⟨D,kvs,rfl,s3.trans s4,Hm,km⟩⟩
 intro v H3
 refine ae.go ?_
 rintro D kvs rfl s3 hD3 km
 refine gn ?_
 have Cv:=CS.trans s3
 refine⟨_,rfl,_,rfl,l,p1,B,qs,rfl,hB.same Cv,gB,by omega,Cv.seq eU,rg.o2,fun b H4 s4 hb =>?_⟩
 have Hm:=s4 _ _ hD3
 refine⟨b,rfl,⟨_,aE.of hb⟩,?_⟩
 refine bF (N:=qs.length) (fun j ys H'=>H'=H4/\ys=(Jq j true).map V.bl) ⟨rfl,rfl⟩ ?_ ?_
 ·rintro j ys H5 Nz hj ⟨rfl,rfl⟩ nz
  refine⟨⟨_,_,aE.of hb,gT hj⟩,by rw[Ja,Uy];exact Jy (show j<=1000 by omega) (by decide),?_⟩
  rintro y H6 ⟨rfl,hy⟩
  have e:=hy _ (aE.of hb)
  rw[gT hj] at e;cases e
  have hx:=rg.ap _ (Jt (l:=jO qs) (n:=j) (by rw[dm];exact hj))
  generalize (jO qs)[j]'(by rw[dm];exact hj)=x at hx
  have og:az kvs (.inl (((m:Int)+(x:Int))%(((mE ps).length:Nat):Int)))=none:=by
   cases hv:az kvs (.inl (((m:Int)+(x:Int))%(((mE ps).length:Nat):Int))) with
   | none=>rfl
   | some v=>
    refine ae.el ((km _).mp (by rw[hv];rfl)) _ ?_
    rintro c hc e
    rw[tS] at e
    exact absurd e.symm (hx c hc)
  refine gn ⟨_,rfl,_,rfl,.inl ⟨_,_,rfl,rfl,_,rfl,_,_,rfl,⟨sizeOk (by omega),rfl⟩,_,_,rfl,rfl,by omega,_,rfl,D,none,rfl,.inl ⟨_,.inl _,.inl Hm,rfl,og.symm⟩,nz _ _ ⟨rfl,?_⟩⟩⟩
  rw[List.replicate_succ',Jh];rfl
 ·rintro ys H5 ⟨rfl,rfl⟩
  refine⟨⟨_,aE.of hb,by rw[iR];exact Jd _⟩,fun p9 qq=>⟨p9,_,rfl,aE.of aJ,?_⟩⟩
  rw[tD]
  exact q _ (Cv.trans (s4.trans (bS qq _)))
end
theorem mx:∀(kvs acc:List (Key×V)),(kvs.map (·.1)).Nodup->(∀kv∈kvs,az acc kv.1=none)->cP acc kvs=acc++kvs
 | [],acc,_,_=>(Uh _).symm
 | kv::kvs,acc,nd,h=>by
  rw[Uc] at nd
  obtain⟨n1,n2⟩:=Yd.mp nd
  show cP (putK acc kv.1 kv.2) kvs=_
  rw[cM _ (h kv Jn),mx kvs _ n2 fun kw hw =>?_]
  ·rw[Ug];rfl
  ·rw[jd _ _ _ _ (h kv Jn),if_neg (fun z=>n1 (by rw[<-z];exact Uj hw))]
   exact h kw (Jp _ hw)
theorem uK {K:Jb}{H:Hp}{bk:List (Str×Str)}{l:Addr}(hB:oh K H bk l)(g:bT bk):ck fun(as:List Addr) (vs:List V)=>vs=as.map V.ref/\aE K H l vs/\as.length=bk.length/\(∀(j:Nat) b (kv:Key×V),as[j]? = some b->(byName bk)[j]? = some kv->d9 K H b [kV kv.1,kv.2])/\cP [] (byName bk)=byName bk:=by
 obtain⟨vs,hl,hd⟩:=hB
 obtain⟨as,has⟩:∃as:List Addr,vs=as.map V.ref:=by
  refine⟨vs.map fun v=>match v with | .ref a=>a|_=>l,?_⟩
  rw[Ym]
  refine List.ext_getElem (by rw[Ja]) fun j h1 h2 =>?_
  rw[Yf]
  obtain⟨tp,e1,_⟩:=jG hd (i:=j) (by rw[<-hZ hd];exact h1)
  rw[Jf h1] at e1
  injection e1 with e1
  rw[e1];rfl
 subst has
 have AH:as.length=bk.length:=by have:=hZ hd;rwa[Ja] at this
 refine⟨as,_,rfl,hl,AH,fun j b kv e1 e2 =>?_,?_⟩
 ·have hj:j<bk.length:=by have:=(Ju.mp e1).1;omega
  refine ae.el (jG hd hj) _ ?_
  rintro tp e3 e4
  rw[Jj,e1] at e3
  injection e3 with e3
  cases e3
  unfold byName at e2
  rw[Jj,Jf hj] at e2
  injection e2 with e2
  rw[<-e2]
  exact e4
 ·refine(mx (byName bk) [] ?_ fun _ _=>rfl).trans (List.nil_append _)
  unfold byName
  rw[Ym]
  exact jt g.nm
theorem BS {B ps:List (Str×Str)}(g:bT B)(o:Of B ps):SeqAt.shaped (.list ((ps.map (·.1)).map PyData.str))=true:=(Sh.list (n:=0) fun d hd=>by
 obtain⟨x,hx,rfl⟩:=J1.mp hd
 obtain⟨q,hq,rfl⟩:=J1.mp hx
 exact Sh.str (bW fun ch hc=>by have:=g.sm q (o q hq) ch hc;omega)).shaped (by decide)
def pJ (K:Jb):Sp:=fun vs H Q _=>om fun(l p:Addr) (B ps:List (Str×Str))=>vs=[.ref l,.ref p]/\oh K H B l/\bT B/\Of B ps/\ps≠[]/\ps.length<=420/\xZ K H p ps /\
 ∀z b H',aw H H'->H' z=some (.tup [.ref b,.int (((tx ps).length:Nat):Int),.str (mE ps)])->H' b=some (.lst (nM ps))->Q (.ref z) H'
section
variable {P:Program}{w:World}{K:Jb}{mg:Str->Option Value}{base:Heap}{f:Addr}{fd:FuncData}{C:Addr}
theorem cN:aO ["_law_book_here", "_law_some", "_law_codes", "_law_found", "_law_place", "_law_name"] ["_law_book_here", "_law_some"] (aB (top fv)):=⟨rfl,rfl,rfl,by decide +kernel,rfl,by decide +kernel,by decide +kernel⟩
theorem BD (F:dh K "_law_begins" "_law_begins" (top fv) f fd)(T:Nm mg)(qz:mg "dict" = none):bM P w K mg base gU 1 f fd ["_law_book_here", "_law_some"] (pJ K):=by
 refine F.ok cN (fun vs H Q E h =>?_) (fun dG A outer s H vs Q E hr h =>?_)
 ·unfold pJ at h
  refine ae.el h _ ?_
  rintro l p B ps rfl _ _ _ _ _ _ _
  rfl
 unfold pJ at h
 refine ae.el h _ ?_
 clear h
 rintro l p B ps rfl hB gB o jH lps hp q
 have hu:=eY hr
 have fO:=hr.units
 have hle:=gB.le
 refine⟨_,(ah (aI (i:=2) cN.nd rfl (Or.inr rfl) (dJ (Ef K rfl) rfl qz (by rfl) (aa (pv 0) ag)))
  (ah (bV (PW.pt (eX (d6 (cQ (au (lJ K) rfl T.n_isinstance (by rfl) (aa (pv 1) (aa (dr rfl T.n_list (by rfl) (v := .ty "list") rfl) ag))))) (gc (aG (yc K fO) (pv 1) (dy ag) (aM _))))) (ak (aK cV)) aW)
  (ah (Bc (i:=3) (j:=4) rfl cN.nd rfl rfl (by decide) rfl rfl (aa (dy ag) (aa ao ag)) rfl)
  (ah (dF PassesOwn.never rfl (fV K (pv 1)) (ai (i:=5) cN.nd rfl (Or.inl rfl)) (ah (bV (PW.pt (eX (d6 (cQ (au (lJ K) rfl T.n_isinstance (by rfl) (aa (pv 5) (aa (dr rfl T.n_str (by rfl) (v := .ty "str") rfl) ag))))) (gc (fX (cI hu (pv 5) (pv 2)))))) (ak (aK cV)) aW)
  (ah (cH (oj K PySem.F.plainAttrs_list PySem.F.slot_list_append PySem.F.type_list_append gW (pv 3) (aa (pv 4) ag)))
  (ak (aI (i:=4) cN.nd rfl (Or.inl rfl) (aU dN (pv 4) (au (dv K) rfl T.n_len (by rfl) (aa (cu hu (pv 2) (pv 5) (fun _ _=>rfl)) ag))))))))
  (ak (aK (fu (aa (pv 3) (aa (pv 4) (aa (oj K PySem.F.plainAttrs_str PySem.F.slot_str_join PySem.F.type_str_join (xR K) bb (aa (bC rfl (aN (Nc:=["_law_name"]) (Fc:=["_law_codes"]) (js:=[2])) (fV K (pv 1)) (aA (i:=0) (n:=1) (by decide)) (fun _ _ _ _ _=>(ai (i:=0) (dX ["_law_name", "_law_codes"]) rfl (Or.inl rfl))) (fun _ _ _ _ _=>br) (fun _ _ _ _ _=>(cu hu (pv 1) (pv 0) (fun _ _=>rfl)))) ag)) ag)))))))))),?_⟩
 refine ae.el (uK hB gB) _ ?_
 rintro as' vs' e1 e2' e3 e4 e5
 refine⟨_,rfl,l,as',byName B,rfl,e1▸e2',by unfold byName;rw[Ja];exact e3,by unfold byName;rw[Ja];omega,e4,fun D H1 n1=>gn ?_⟩
 rw[e5] at n1
 dsimp only[kU]
 have eU:=n1.same.seq hp
 refine⟨_,rfl,.inl ⟨_, "list",_,true,rfl,xZ.den (ps:=ps) eU,(lM K (.list _)).2.2.2.1,_,rfl,bA ?_⟩⟩
 refine⟨_,rfl,by show 0<=sizeLine;decide,fun p5 H5 n5 =>.inr ⟨_,_,xZ.den (ps:=ps) (n5.same.seq eU),Den.list (aE.of n5.at) (by unfold aL;rfl),?_,gK,_,rfl,?_⟩⟩
 ·exact BS gB o
 rw[hX]
 have s5:=n1.same.trans n5.same
 have ie:((ps.map (·.1)).map PyData.str).isEmpty=false:=by cases ps with|nil=>exact absurd rfl jH|cons _ _=>rfl
 rw[ie]
 refine bA ?_
 dsimp only[kU]
 refine⟨by show 0<=sizeLine;decide,fun b H6 n6=>⟨_,_,rfl,?_⟩⟩
 have yG:=n5.same.seq eU
 have Df:=n5.same _ _ n1.at
 have tc:=xI gB o (by omega)
 dsimp only
 refine cb (t:=lB _ _ _) (fun σ H'=>∃x5:Option V,σ=[some (.ref l),some (.ref p),some (.ref D),some (.ref b),some (.int (((tx ps).length:Nat):Int)),x5]/\aw H5 H'/\H' b=some (.lst (nM ps))) (fun Nx nx =>?_) ?_
 ·refine⟨_,rfl,p,rfl,⟨_,n6.same.seq yG⟩,?_⟩
  refine eJ (N:=ps.length) (fun i σ H'=>∃x5:Option V,σ=[some (.ref l),some (.ref p),some (.ref D),some (.ref b),some (.int (((tx (ps.take i)).length:Nat):Int)),x5]/\aw H5 H'/\H' b=some (.lst (nM (ps.take i)))) ⟨none,rfl,n6.same,n6.at⟩ ?_ ?_
  ·intro i σ H7 hi
   refine ae.go ?_
   rintro x5 rfl s7 hb
   refine⟨⟨_,_,s7.seq yG,fL hi⟩,?_⟩
   rintro x' H8 ⟨rfl,hy⟩
   have e:=hy _ (s7.seq yG)
   rw[fL hi] at e;cases e
   have MA:=sL hi
   have Pe:=pE hi
   have Kv:=o _ (Jt hi)
   have P9:=tc i
   generalize ps[i]=y at MA Kv
   have Fb:=gB.name Kv
   have D6:=(gB.cd y Kv).le
   refine gn ⟨_,rfl,.inl ⟨_, "str",.str y.1,true,rfl,by unfold Den;rfl,(lM K (.str _)).2.2.1,_,rfl,bA ?_⟩⟩
   refine⟨_,rfl,_,rfl,D,some (.str y.2),rfl,.inl ⟨_,.inr y.1,.inl (s7 _ _ Df),rfl,Fb.symm⟩,_,rfl,bA ?_⟩
   refine⟨_,rfl,.inl ⟨rfl,_,aE.of hb⟩,_,rfl,b,_,_,rfl,rfl,hb,?_,fun H9 c9 =>?_⟩
   ·rw[iR,Jr];exact Jy (show min i ps.length<=1000 by omega) (by decide)
   have s9:aw H5 H9:=fun a o e=>by rw[c9.ne (aj e n6.nn)];exact s7 a o e
   refine⟨_,rfl,_,rfl,_,rfl,D,.str y.2,rfl,.inl ⟨_,.inr y.1,.inl (s9 _ _ Df),rfl,Fb.symm⟩,_,_,rfl,⟨sizeOk (by omega),rfl⟩,.inl ⟨_,_,rfl,rfl,gn ⟨some (.str y.1),?_,s9,by rw[c9.at,Pe]⟩⟩⟩
   rw[MA];rfl
  ·intro σ H7
   refine ae.go ?_
   rintro x5 rfl s7 hb
   rw[Jz] at hb
   exact⟨⟨_,s7.seq yG,by rw[jm];exact Jd _⟩,nx _ _ ⟨x5,by rw[Jz],s7,hb⟩⟩
 intro σ H7
 refine ae.go ?_
 rintro x5 rfl s7 hb
 have GW:=s7.seq yG
 have GR:=s7 _ _ Df
 refine⟨_,rfl,_,rfl,rfl,_,rfl,p,rfl,⟨_,GW⟩,?_⟩
 refine bF (N:=ps.length) (fun i ys H'=>H'=H7/\ys=((ps.take i).map (·.2)).map V.str) ⟨rfl,rfl⟩ ?_ ?_
 ·rintro i ys H8 Ny hi ⟨rfl,rfl⟩ ny
  refine⟨⟨_,_,GW,fL hi⟩,by rw[Ja,Ja,Jr];exact Jy (show min i ps.length<=1000 by omega) (by decide),?_⟩
  rintro x H9 ⟨rfl,hy⟩
  have e:=hy _ GW
  rw[fL hi] at e;cases e
  refine gn ⟨_,rfl,_,rfl,D,.str ps[i].2,rfl,.inl ⟨_,.inr ps[i].1,.inl GR,rfl,(gB.name (o _ (Jt hi))).symm⟩,ny _ _ ⟨rfl,?_⟩⟩
  rw[aH hi,Jh,Jh];rfl
 ·rintro ys H8 ⟨rfl,rfl⟩
  refine⟨⟨_,GW,by rw[jm];exact Jd _⟩,fun p3 hp3 =>?_⟩
  rw[Jz]
  refine⟨"",p3,ps.map (·.2),rfl,rfl,aE.of aJ,?_,?_⟩
  ·have h1:=rM ps
   have h2:=eh gB o
   have e0:Str.length "" = 0:=rfl
   rw[h1,e0]
   omega
  ·rw[sY]
   have n3:dz H8 p3 (.lst ((ps.map (·.2)).map V.str)) (upd H8 p3 (.lst ((ps.map (·.2)).map V.str))):=⟨hp3,rfl⟩
   generalize upd H8 p3 (.lst ((ps.map (·.2)).map V.str))=H9 at n3 ⊢
   exact⟨by show 3<=sizeLine;decide,fun z H10 n10=>q z b _ (s5.trans (s7.trans (n3.same.trans n10.same))) n10.at (n10.same _ _ (n3.same _ _ hb))⟩
end
theorem xt {x:List Nat}{m k:Nat}(hm:m<x.length)(hk:k<x.length):(x.drop m++x.take m)[k]? = x[(m+k)%x.length]?:=by
 by_cases h:m+k<x.length
 ·rw[Ut (by rw[J9];omega),List.getElem?_drop,Nat.mod_eq_of_lt h]
 ·rw[Ui (by rw[J9];omega),J9,List.getElem?_take,if_pos (by omega)]
  have e:(m+k)%x.length=m+k-x.length:=by
   rw[Nat.mod_eq_sub_mod (by omega),Nat.mod_eq_of_lt (by omega)]
  rw[e]
  congr 1
  omega
theorem zb {x y:List Nat}{m:Nat}(hm:m<x.length)(hl:y.length=x.length):(∀k,k<x.length->y[k]? = x[(m+k)%x.length]?)↔y=x.drop m++x.take m:=by
 have l2:(x.drop m++x.take m).length=x.length:=by rw[Jc,J9,Jr];omega
 refine⟨fun h=>List.ext_getElem? fun k =>?_,fun h k hk=>by rw[h,xt hm hk]⟩
 by_cases hk:k<x.length
 ·rw[h k hk,xt hm hk]
 ·rw[List.getElem?_eq_none (by omega),List.getElem?_eq_none (by omega)]
theorem BK {ps:List (Str×Str)}{k:Int}:Dl (.int k) (nM ps)=true ↔ ∃c∈jO ps,((c:Nat):Int)=k:=by
 unfold Dl nM
 rw[List.any_map,List.any_eq_true]
 refine⟨fun⟨c,hc,e⟩=>⟨c,hc,?_⟩,fun⟨c,hc,e⟩=>⟨c,hc,?_⟩⟩
 ·have e:(((c:Nat):Int)==k)=true:=e
  exact eq_of_beq e
 ·show(((c:Nat):Int)==k)=true
  rw[e];exact beq_self_eq_true _
theorem yo (ps:List (Str×Str)):(nM ps).all iU=true:=by
 unfold nM
 rw[List.all_map,Y8]
 intro _ _;rfl
section
variable {P:Program}{w:World}{K:Jb}{mg:Str->Option Value}{base:Heap}{f:Addr}{fd:FuncData}{C:Addr}
theorem cB:aO ["_law_book_here", "_law_thing", "_law_one", "_law_other", "_law_place", "_law_k"] ["_law_book_here", "_law_thing"] (aB (top eO)):=⟨rfl,rfl,rfl,by decide +kernel,rfl,by decide +kernel,by decide +kernel⟩
theorem Bp (F:dh K "_law_is_ring" "_law_is_ring" (top eO) f fd)(T:Nm mg)(iO:Fn P w K mg base 1 "_law_begins" ["_law_book_here", "_law_some"] (pJ K)):bM P w K mg base gU 2 f fd ["_law_book_here", "_law_thing"] (lH K):=by
 refine F.ok cB (fun vs H Q E h =>?_) (fun dG A outer s H vs Q E hr h =>?_)
 ·unfold lH at h
  refine ae.el h _ ?_
  rintro l z p0 p1 B ps qs n _ rfl _ _ _ _ _ _ _ _ _
  rfl
 unfold lH at h
 refine ae.el h _ ?_
 clear h
 rintro l p p0 p1 B ps qs n _ rfl hB gB hp sf eU rg lp lq q
 have hu:=eY hr
 have fO:=hr.units
 refine⟨_,(ah (bV (PW.pt (eX (d6 (cQ (au (lJ K) rfl T.n_isinstance (by rfl) (aa (pv 1) (aa (dr rfl T.n_tuple (by rfl) (v := .ty "tuple") rfl) ag))))) (eX (aG (rK K fO) (au (dv K) rfl T.n_len (by rfl) (aa (pv 1) ag)) ao (aM _)) (eX (d6 (cQ (au (lJ K) rfl T.n_isinstance (by rfl) (aa (bK (i9 K) (pv 1) ao (fun _ _=>rfl)) (aa (dr rfl T.n_int (by rfl) (v := .ty "int") rfl) ag))))) (gc (cQ (au (lJ K) rfl T.n_isinstance (by rfl) (aa (bK (i9 K) (pv 1) ao (fun _ _=>rfl)) (aa (dr rfl T.n_bool (by rfl) (v := .ty "bool") rfl) ag))))))))) (ak (aK dZ)) aW)
  (ah (fq (fu (aa (aY (iO.mono (by decide)) hr rfl (aa (pv 0) (aa (bK (i9 K) (pv 1) ao (fun _ _=>rfl)) ag))) (aa (aY (iO.mono (by decide)) hr rfl (aa (pv 0) (aa (bK (i9 K) (pv 1) ao (fun _ _=>rfl)) ag))) (aa (bK (i9 K) (pv 1) ao (fun _ _=>rfl)) ag)))) (tupK K 3 rfl (ar (ai (i:=2) cB.nd rfl (Or.inr rfl)) (ar (ai (i:=3) cB.nd rfl (Or.inl rfl)) (ar (ai (i:=4) cB.nd rfl (Or.inr rfl)) bt)))))
  (ah (bV (PW.pt (eX (aG Ag (pv 2) cV (aM _)) (eX (aG Ag (pv 3) cV (aM _)) (eX (aG (rK K fO) (bK (i9 K) (pv 2) ao (fun _ _=>rfl)) (bK (i9 K) (pv 3) ao (fun _ _=>rfl)) (aM _)) (gc (d6 (oK jE jE ao (pv 4) (bK (i9 K) (pv 2) ao (fun _ _=>rfl))))))))) (ak (aK dZ)) aW)
  (ah (dF PassesOwn.never rfl (dj rfl T.n_range (aa (bK (i9 K) (pv 2) ao (fun _ _=>rfl)) ag)) (ai (i:=5) cB.nd rfl (Or.inl rfl)) (ak (bV (aG (rK K fO) (bK (i9 K) (bK (i9 K) (pv 3) ao (fun _ _=>rfl)) (pv 5) (fun _ _=>rfl)) (bK (i9 K) (bK (i9 K) (pv 2) ao (fun _ _=>rfl)) (aU fC (aU dN (pv 4) (pv 5)) (bK (i9 K) (pv 2) ao (fun _ _=>rfl))) (fun _ _=>rfl)) (aM _)) (ak (aK dZ)) aW)))
  (ak (aK (au (vW K rfl) rfl T.n_all (by rfl) (aa (bC rfl (aN (Nc:=["_law_begin_here"]) (Fc:=["_law_one", "_law_place"]) (js:=[2,4])) (fV K (bK (i9 K) (pv 3) ao (fun _ _=>rfl))) (aA (i:=0) (n:=1) (by decide)) (fun _ _ _ _ _=>(ai (i:=0) (dX ["_law_begin_here", "_law_one", "_law_place"]) rfl (Or.inl rfl))) (fun _ _ _ _ _=>br) (fun _ _ _ _ _=>(iE (Ck K) (aU fC (aU dN (pv 2) (pv 0)) (bK (i9 K) (pv 1) ao (fun _ _=>rfl))) (bK (i9 K) (pv 1) ao (fun _ _=>rfl)) (by with_unfolding_all rfl)))) ag)))))))),?_⟩
 have Kk:=oz hp sf eU
 have L8:Den K H (.int n) (.int n):=by unfold Den;rfl
 have LL:∀{H':Hp} {R:VK},aw H H'->R (.int n) H'->E6 K (.ref p) (.int 2) H' R:=fun s' r =>.inr (.inl ⟨p,_,2,_,rfl,rfl,s'.rJ hp,rfl,r⟩)
 refine⟨_,rfl,.inl ⟨_, "tuple",_,true,rfl,Kk,(lM K (.tuple _)).2.2.2.2,_,rfl,bA ⟨_,rfl,_,_,rfl,.inr ⟨_,hp,rfl⟩,.inl ⟨rfl,_,rfl,bA ?_⟩⟩⟩⟩
 refine⟨_,rfl,LL (aw.refl _) (.inl ⟨_, "int",_,true,rfl,L8,(lM K (.int n)).2.1,_,rfl,bA ?_⟩)⟩
 refine⟨_,rfl,LL (aw.refl _) (.inl ⟨_, "bool",_,false,rfl,L8,(lM K (.int n)).1,_,rfl,bA ?_⟩)⟩
 have lo:=rg.lo
 have hi:=rg.hi
 have hL:(tx qs).length=(tx ps).length:=by
  have h3:=congrArg Ur rg.eq
  rw[Jc,J9,Jr] at h3
  omega
 have OM:ps≠[]:=fun z=>by
  rw[z] at hi
  have hi:n<((0:Nat):Int):=hi
  omega
 have ne1:qs≠[]:=fun z=>by
  rw[z] at hL
  have hL:0=(tx ps).length:=hL
  omega
 refine⟨_,rfl,_,rfl,.inr (.inl ⟨p,_,0,_,rfl,rfl,hp,rfl,l,p0,B,ps,rfl,hB,gB,rg.o1,OM,lp,sf,fun z0 b0 H1 s1 FN Kt =>?_⟩)⟩
 refine⟨_,rfl,_,rfl,.inr (.inl ⟨p,_,1,_,rfl,rfl,s1.rJ hp,rfl,l,p1,B,qs,rfl,hB.same s1,gB,rg.o2,ne1,lq,s1.seq eU,fun z1 b1 H2 s2 GU qM =>?_⟩)⟩
 have CS:=s1.trans s2
 refine⟨_,rfl,LL CS ⟨by show 3<=sizeLine;decide,fun z3 H3 n3=>⟨z3,_,rfl,d9.of n3.at,rfl,_,_,rfl,_,_,rfl,_,_,rfl,rfl,?_⟩⟩⟩
 have s3:=CS.trans n3.same
 have FN:=n3.same _ _ (s2 _ _ FN)
 have Kt:=n3.same _ _ (s2 _ _ Kt)
 have GU:=n3.same _ _ GU
 have qM:=n3.same _ _ qM
 clear n3 CS s1 s2
 have tl:=eh gB rg.o1
 have tq:=eh gB rg.o2
 have i0:∀{H':Hp} {R:VK} (i:Int) (v:V),nY [.ref b0,.int (((tx ps).length:Nat):Int),.str (mE ps)] i=some v->aw H3 H'->R v H'->E6 K (.ref z0) (.int i) H' R:=fun i v e s' r =>.inr (.inl ⟨z0,_,i,v,rfl,rfl,d9.of (s' _ _ FN),e,r⟩)
 have i1:∀{H':Hp} {R:VK} (i:Int) (v:V),nY [.ref b1,.int (((tx qs).length:Nat):Int),.str (mE qs)] i=some v->aw H3 H'->R v H'->E6 K (.ref z1) (.int i) H' R:=fun i v e s' r =>.inr (.inl ⟨z1,_,i,v,rfl,rfl,d9.of (s' _ _ GU),e,r⟩)
 have nl:=aw.refl H3
 refine⟨_,rfl,.inl ⟨rfl,_,rfl,bA ⟨_,rfl,.inl ⟨rfl,_,rfl,bA ?_⟩⟩⟩⟩
 refine⟨_,rfl,i0 1 _ rfl nl ⟨_,rfl,i1 1 _ rfl nl (.inl ⟨rfl,_,rfl,?_⟩)⟩⟩
 rw[decide_eq_true (by rw[hL])]
 refine bA ⟨_,rfl,_,_,rfl,rfl,_,rfl,ee (fun c1 =>?_) (fun c1=>absurd (decide_eq_true (by omega)) c1)⟩
 refine⟨_,rfl,i0 1 _ rfl nl ⟨_,_,rfl,rfl,_,rfl,?_⟩⟩
 rw[decide_eq_true hi]
 refine bA ?_
 obtain⟨m,rfl⟩:∃m:Nat,n=(m:Int):=⟨n.toNat,by omega⟩
 have hm:m<(tx ps).length:=by omega
 have MI:=(zb (x:=tx ps) (y:=tx qs) hm hL).mpr (by have:=rg.eq;rwa[Uz] at this)
 have em:∀i:Nat,((m:Int)+(i:Int))%(((tx ps).length:Nat):Int)=(((m+i)%(tx ps).length:Nat):Int):=fun i=>by exact_mod_cast rfl
 have MO:∀{xs:List (Str×Str)} {j c:Nat},(tx xs)[j]? = some c->nY (mE xs).cps.toList (j:Int)=some c:=fun{xs j c} h=>ic (by omega) (by
  show(sg (mE xs))[j]? = _
  rw[qj];exact h)
 have t0:=kQ ps
 have t1:=kQ qs
 dsimp only[kU]
 refine cb (t:=lB _ _ _) (fun σ H'=>∃x5,σ=[some (.ref l),some (.ref p),some (.ref z0),some (.ref z1),some (.int (m:Int)),x5]/\H'=H3) (fun Nx nx =>?_) ?_
 ·refine⟨_,rfl,i0 1 _ rfl nl ⟨_,rfl,by omega,by omega,?_⟩⟩
  refine eJ (N:=(tx ps).length) (fun i σ H'=>∃x5,σ=[some (.ref l),some (.ref p),some (.ref z0),some (.ref z1),some (.int (m:Int)),x5]/\H'=H3) ⟨none,rfl,rfl⟩ ?_ ?_
  ·rintro i σ H4 hi ⟨x5,rfl,rfl⟩
   refine⟨by show i<(((tx ps).length:Nat):Int).toNat;omega,?_⟩
   rintro x H5 ⟨rfl,rfl⟩
   refine gn ?_
   rw[show(0:Int)+(i:Int)=((i:Nat):Int) by omega]
   have hq:(tx qs)[i]? = some ((tx qs)[i]'(by omega)):=Jf (by omega)
   have hr:=MI i hi
   rw[hq] at hr
   generalize (tx qs)[i]'(by omega)=c at hq hr
   refine⟨_,rfl,i1 2 _ rfl nl ⟨_,rfl,.inr (.inr ⟨_,_,c,rfl,rfl,sizeOk (by omega),MO hq,?_⟩)⟩⟩
   refine⟨_,rfl,i0 2 _ rfl nl ⟨_,rfl,_,rfl,.inl ⟨_,_,rfl,rfl,_,rfl,i0 1 _ rfl nl ⟨_,_,rfl,rfl,by omega,.inr (.inr ⟨_,_,c,rfl,rfl,sizeOk (by omega),by rw[em];exact MO hr.symm,.inl ⟨rfl,_,rfl,?_⟩⟩)⟩⟩⟩⟩
   rw[decide_eq_true rfl]
   exact bA ⟨_,rfl,rfl⟩
  ·rintro σ H4 ⟨x5,rfl,rfl⟩
   exact⟨by show(((tx ps).length:Nat):Int).toNat<=(tx ps).length;omega,nx _ _ ⟨_,rfl,rfl⟩⟩
 rintro σ H4 ⟨x5,rfl,rfl⟩
 clear MI
 refine⟨_,rfl,i1 0 _ rfl nl ⟨b1,rfl,⟨_,aE.of qM⟩,?_⟩⟩
 refine bF (N:=qs.length) (fun j ys H'=>H'=H4/\ys=(Jq j true).map V.bl) ⟨rfl,rfl⟩ ?_ ?_
 ·rintro j ys H5 Nz hj ⟨rfl,rfl⟩ nz
  refine⟨⟨_,_,aE.of qM,gT hj⟩,by rw[Ja,Uy];exact Jy (show j<=1000 by omega) (by decide),?_⟩
  rintro y H6 ⟨rfl,hy⟩
  have e:=hy _ (aE.of qM)
  rw[gT hj] at e;cases e
  have hx:=rg.ap _ (Jt (l:=jO qs) (n:=j) (by rw[dm];exact hj))
  generalize (jO qs)[j]'(by rw[dm];exact hj)=x at hx
  have og:Dl (.int (((m:Int)+(x:Int))%(((tx ps).length:Nat):Int))) (nM ps)=false:=by
   cases hv:Dl (.int (((m:Int)+(x:Int))%(((tx ps).length:Nat):Int))) (nM ps) with
   | false=>rfl
   | true=>
    refine ae.el (BK.mp hv) _ ?_
    rintro c hc e
    exact absurd e.symm (hx c hc)
  refine gn ⟨_,rfl,_,rfl,.inl ⟨_,_,rfl,rfl,_,rfl,i0 1 _ rfl nl ⟨_,_,rfl,rfl,by omega,_,rfl,i0 0 _ rfl nl ⟨b0,_,rfl,.inl (aE.of Kt),rfl,yo ps,nz _ _ ⟨rfl,?_⟩⟩⟩⟩⟩
  rw[og,List.replicate_succ',Jh];rfl
 ·rintro ys H5 ⟨rfl,rfl⟩
  refine⟨⟨_,aE.of qM,by rw[iR];exact Jd _⟩,fun p9 qq=>⟨p9,_,rfl,aE.of aJ,?_⟩⟩
  rw[tD]
  exact q _ (s3.trans (bS qq _))
end
def oM (K:Jb):Sp:=fun vs H Q _=>∃(a:Addr) (ns:List Int),vs=[.ref a]/\aE K H a (ns.map V.int)/\ns.length<=63/\∀H',Q (.bl true) H'
theorem tW {B:List (Str×Str)}(g:bT B):nL (B.map (·.2)):=⟨by rw[Ja];exact g.le,fun c hc=>by
 obtain⟨q,hq,rfl⟩:=J1.mp hc
 exact g.cd q hq⟩
theorem Ce {B:List (Str×Str)}(g:bT B):∀c∈qC B,c≠[]:=fun c hc=>by
 obtain⟨q,hq,rfl⟩:=iL.mp hc
 exact sW g hq
theorem GA {B:List (Str×Str)}(g:bT B)(h:∀r,fg B r->En (qC B) (sg r)){p:Sg×Sg}(hp:Rc (qC B) p):Fi (qC B) p:=by
 refine Rc.fn (fun k d c h1 h2 hd hc =>?_) hp
 obtain⟨q,hq,rfl⟩:=iL.mp hd
 have hl:fg B (toS ((sg q.2).drop k)):=⟨q,hq,k,h1,h2,mV _⟩
 have:=h _ hl
 rw[mV] at this
 exact(this.fin (Ce g) (fun z=>by have:=congrArg Ur z;rw[J9,Yx] at this;omega) c hc).1
theorem Fw {B:List (Str×Str)}(h:∀p,Rc (qC B) p->Fi (qC B) p):∀r,fg B r->En (qC B) (sg r):=fun r hr=>by
 obtain⟨q,hq,a,a1,a2,e⟩:=hr
 rw[e]
 exact En.FV fun c hc=>h _ (.start a (sg q.2) c a1 a2 (iL.mpr ⟨q,hq,rfl⟩) hc)
section
variable {P:Program}{w:World}{K:Jb}{mg:Str->Option Value}{base:Heap}{f:Addr}{fd:FuncData}
theorem hU:aO ["_law_script", "_law_state", "_law_turn", "_law_book_here", "_law_rings", "_law_again", "_law_found"] ["_law_script"] (aB (top iT)):=⟨rfl,rfl,rfl,by decide +kernel,rfl,by decide +kernel,by decide +kernel⟩
theorem xw (F:dh K "law" "law" (top iT) f fd)(T:Nm mg)(pN:Fn P w K mg base 1 "_law_begin" ["_law_script"] (jZ K))(qv:Fn P w K mg base 3 "_law_book" ["_law_state"] (tw K))(mX:Fn P w K mg base 3 "_law_worths" ["_law_codes"] (rW K))(mO:Fn P w K mg base 6 "never_ring" ["book"] (Bk K))(lG:Fn P w K mg base 2 "_law_is_ring" ["_law_book_here", "_law_thing"] (lH K))(nE:Fn P w K mg base 3 "shows_ring" ["book", "thing"] (lH K)):bM P w K mg base gU 7 f fd ["_law_script"] (oM K):=by
 refine F.ok hU (fun vs H Q E h =>?_) (fun dG A outer s H vs Q E hr h =>?_)
 ·obtain⟨a,ns,rfl,_⟩:=h
  rfl
 unfold oM at h
 refine ae.el h _ ?_
 clear h
 rintro a ns rfl hS hlen q
 have hu:=eY hr
 have fO:=hr.units
 have small:∀{n:Nat},n<=30000->n<sizeLine:=fun h=>Jy h (by decide)
 refine⟨_,(ah (aI (i:=1) hU.nd rfl (Or.inl rfl) (aY (pN.mono (by decide)) hr rfl (aa (pv 0) ag)))
  (ah (dF PassesOwn.never rfl (dj rfl T.n_range (aa ao ag)) (ai (i:=2) hU.nd rfl (Or.inl rfl)) (ah (aI (i:=3) hU.nd rfl (Or.inl rfl) (aY (qv.mono (by decide)) hr rfl (aa (pv 1) ag)))
  (ah (aI (i:=4) hU.nd rfl (Or.inl rfl) (iE (PD (Jy (Y0 _) hu)) (aY (mX.mono (by decide)) hr rfl (aa (bC rfl (aN (Nc:=["_law_name", "_law_code"]) (Fc:=[]) (js:=[])) (fV K (pv 3)) (dP (aP (aA (i:=0) (n:=2) (by decide)) (aP (aA (i:=1) (n:=2) (by decide)) cY aF aX) aF (bf aF aX))) (fun _ _ _ _ _=>(tupK K 2 rfl (ar (ai (i:=0) (dX ["_law_name", "_law_code"]) rfl (Or.inl rfl)) (ar (ai (i:=1) (dX ["_law_name", "_law_code"]) rfl (Or.inl rfl)) bt)))) (fun _ _ _ _ _=>br) (fun _ _ _ _ _=>(pv 1))) ag)) xJ (aM _)))
  (ak (dF PassesOwn.never rfl (dj rfl T.n_range (aa ao ag)) (ai (i:=5) hU.nd rfl (Or.inl rfl)) (ah (aI (i:=6) hU.nd rfl (Or.inl rfl) (aY (mO.mono (by decide)) hr rfl (aa (pv 3) ag)))
  (ah (bV (aG (yc K fO) (iE Ag (pv 6) cV (aM _)) (pv 4) (aM _)) (ak (aK dZ)) aW)
  (ak (bV (aG jU (pv 6) cV (aM _)) (ah (bV (PW.pt (eX (d6 (cQ (aY (lG.mono (by decide)) hr rfl (aa (pv 3) (aa (pv 6) ag))))) (gc (aG jU (aY (nE.mono (by decide)) hr rfl (aa (pv 3) (aa (pv 6) ag))) dZ (aM _))))) (ak (aK dZ)) aW)
  (ah (cH (CL K PySem.F.plainAttrs_list PySem.F.slot_list_reverse PySem.F.type_list_reverse xQ (bK (i9 K) (pv 6) ao (fun _ _=>rfl))))
  (ak (cH (CL K PySem.F.plainAttrs_list PySem.F.slot_list_clear PySem.F.type_list_clear C2 (bK (i9 K) (pv 6) ao (fun _ _=>rfl))))))) aW)))))))))
  (ak (aK dZ)))),?_⟩
 refine⟨_,rfl,a,ns,rfl,hS,hlen,fun b c H1 bx hb hc sm1=>gn ?_⟩
 dsimp only
 clear sm1 hS hlen
 refine cb (t:=lB _ _ _) (fun σ H'=>True) (fun Nx nx =>?_) ?_
 ·refine⟨_,rfl,by decide,by decide,?_⟩
  refine eJ (N:=3) (fun i σ H'=>zW fun(t':Int) (x2 x3 x4 x5 x6:Option V) =>σ=[some (.ref a),some (.ref b),x2,x3,x4,x5,x6]/\Bx H' b c t'/\0<=t'/\t'<=400*i) ⟨0,_,_,_,_,_,rfl,bx,Yo _,by decide⟩ ?_ ?_
  ·intro i σ H2 hi
   refine ae.go ?_
   rintro t2 x2 x3 x4 x5 x6 rfl CA Mn NA
   refine⟨hi,?_⟩
   rintro x H2' ⟨rfl,rfl⟩
   refine gn ?_
   dsimp only
   refine⟨_,rfl,b,c,t2,rfl,CA,Mn,by omega,fun bk v H3 t3 gk hA cR=>gn ?_⟩
   obtain⟨l,vs,rfl,hl,hd⟩:=hA
   have gY:aE K H3 l vs:=qd.seq (aE.of hl)
   have MK:=hd.same (qd (H:=H3) (b:=b) (c:=c))
   have O5:=cR.bx
   have PR:=cR.le
   have Qf:=cR.ub
   have PV:=hZ hd
   have PQ:=gk.le
   clear hl hd
   dsimp only
   refine cj (te:=BQ _ _ _) (fun v H'=>∃rb:Bool,v = .bl rb/\aw H3 H'/\(rb=true ↔ ¬ ∀r,fg bk r->En (qC bk) (sg r))) (fun Qn qn =>?_) ?_
   ·refine⟨_,rfl,l,rfl,⟨_,gY⟩,?_⟩
    refine bF (N:=bk.length) (fun k ys H'=>H'=H3/\ys=((bk.take k).map (·.2)).map V.str) ⟨rfl,rfl⟩ ?_ ?_
    ·rintro k ys H5 Ny hk ⟨rfl,rfl⟩ ny
     refine ae.el (jG MK hk) _ ?_
     rintro tp e1 e2
     refine⟨⟨_,_,gY,e1⟩,small (by rw[Ja,Ja,Jr];omega),?_⟩
     rintro x H6 ⟨rfl,hy⟩
     have e:=hy _ gY
     rw[e1] at e;cases e
     refine⟨tp,_,rfl,e2,rfl,_,_,rfl,_,_,rfl,rfl,?_⟩
     dsimp only[kN]
     rw[if_pos rfl]
     refine⟨_,rfl,ny _ _ ⟨rfl,?_⟩⟩
     rw[aH hk]
     show _=List.map V.str (List.map (·.2) (bk.take k++[bk[k]]))
     rw[Jh,Jh];rfl
    ·rintro ys H5 ⟨rfl,rfl⟩
     rw[Jz]
     refine⟨⟨_,gY,by omega⟩,fun cp hcp =>?_⟩
     obtain⟨H6,n6⟩:∃H6,dz H5 cp (.lst ((bk.map (·.2)).map V.str)) H6:=⟨_,hcp,rfl⟩
     rw[<-n6.eq]
     refine⟨cp,bk.map (·.2),rfl,n6.at,tW gk,fun wv H7 s7 hw e8 H8 n8 =>?_⟩
     obtain⟨wd,rfl,hw⟩:=hw
     have s8:=n6.same.trans (s7.trans n8.same)
     have MW:DN H8 e8 0 := .inl ⟨[],.inl n8.at,rfl⟩
     rcases hw with ⟨dn,og⟩|⟨kvs,hkv,kne,dM⟩
     ·have Nn:DN H8 wd 0:=by
       rcases dn with ⟨kvs,h|⟨o,h⟩,e⟩|⟨kvs,h|⟨o,h⟩,e⟩
       ·exact .inl ⟨kvs,.inl (n8.same _ _ h),e⟩
       ·exact .inl ⟨kvs,.inr ⟨o,n8.same _ _ h⟩,e⟩
       ·exact .inr ⟨kvs,.inl (n8.same _ _ h),e⟩
       ·exact .inr ⟨kvs,.inr ⟨o,n8.same _ _ h⟩,e⟩
      refine⟨wd,e8,0,rfl,rfl,Nn,MW,qn _ _ ⟨true,rfl,s8,⟨fun _ h =>?_,fun _=>rfl⟩⟩⟩
      refine ae.el og _ ?_
      rintro pp hpp og
      exact og (GA gk h hpp)
     ·refine⟨wd,e8,kvs.length,rfl,rfl,.inr ⟨kvs,.inl (n8.same _ _ hkv),rfl⟩,MW,qn _ _ ⟨false,?_,s8,⟨(fun h=>nomatch h),fun h=>absurd (Fw dM) h⟩⟩⟩
      cases kvs with|nil=>exact absurd rfl kne|cons _ _=>rfl
   intro v H7
   refine ae.go ?_
   rintro rb rfl s7 hrb
   refine gn ?_
   have Ku:oh K H7 bk l:=⟨vs,s7.seq gY,MK.same s7⟩
   have NM:=O5.same s7
   refine⟨_,rfl,by decide,by decide,?_⟩
   refine eJ (N:=2) (fun j σ H'=>ck fun(x5 x6:Option V) =>σ=[some (.ref a),some (.ref b),some (.int (0+(i:Int))),some (.ref l),some (.bl rb),x5,x6]/\aw H7 H') ⟨_,_,rfl,aw.refl _⟩ ?_ ?_
   ·intro j σ H8 hj
    refine ae.go ?_
    rintro x5 x6 rfl s8
    refine⟨hj,?_⟩
    rintro x H8' ⟨rfl,rfl⟩
    refine gn ?_
    dsimp only
    refine⟨_,rfl,l,bk,rfl,Ku.same s8,gk,fun H9 s9 dM=>gn ?_,fun z H9 s9 hrg og=>gn ?_⟩
    ·have Kg:rb=false:=by
      cases rb with
      | false=>rfl
      | true=>exact absurd dM (hrb.mp rfl)
     subst Kg
     exact⟨_,rfl,.inl ⟨rfl,_,rfl,.inl ⟨rfl,_,rfl,bA ⟨_,rfl,.inl ⟨rfl,_,rfl,bA ⟨_,_,rfl,s8.trans s9⟩⟩⟩⟩⟩⟩
    ·have Kg:rb=true:=hrb.mpr fun h=>by
      obtain⟨r,hr,hn⟩:=og
      exact hn (h r hr)
     subst Kg
     unfold GK at hrg
     refine ae.el hrg _ ?_
     clear hrg og
     rintro p q' n ps qs sf hq0 hpq Dd qq hq9 rg lp lq
     refine⟨_,rfl,.inl ⟨rfl,_,rfl,.inl ⟨rfl,_,rfl,bA ⟨_,rfl,.inl ⟨rfl,_,rfl,e7 ?_⟩⟩⟩⟩⟩
     have Ml:=s8.trans s9
     refine⟨_,rfl,_,rfl,l,z,p,q',bk,ps,qs,n,(),rfl,Ku.same Ml,gk,d9.of Dd,aE.of qq,aE.of hq9,rg,lp,lq,fun H10 s10=>⟨_,rfl,bA ?_⟩⟩
     refine⟨_,rfl,_,rfl,l,z,p,q',bk,ps,qs,n,(),rfl,Ku.same (Ml.trans s10),gk,d9.of (s10 _ _ Dd),aE.of (s10 _ _ qq),aE.of (s10 _ _ hq9),rg,lp,lq,fun uQ s11 =>.inr ⟨_,_,rfl,rfl,_,rfl,bA ?_⟩⟩
     have sA:=s10.trans s11
     have za:=sA _ _ Dd
     have wJ:=sA _ _ qq
     have KJ:=sA _ _ hq9
     refine⟨_,rfl,.inr (.inl ⟨z,_,0,_,rfl,rfl,d9.of za,rfl,.inl ⟨rfl,_,aE.of wJ⟩,p,_,rfl,rfl,wJ,fun H12 c12 =>?_⟩)⟩
     have Ic:H12 z=some (.tup [.ref p,.ref q',.int n]):=by rw[c12.ne (fun e=>by rw[e,wJ] at za;cases za)];exact za
     have D4:H12 q'=some (.lst ((qs.map (·.1)).map V.str)):=by rw[c12.ne (Ne.symm hpq)];exact KJ
     refine⟨_,rfl,.inr (.inl ⟨z,_,1,_,rfl,rfl,d9.of Ic,rfl,.inl ⟨rfl,_,aE.of D4⟩,q',_,rfl,rfl,D4,fun H13 c13=>⟨_,_,rfl,fun y o ey =>?_⟩⟩)⟩
     have e8:=s8 _ _ ey
     rw[c13.ne (aj e8 hq0),c12.ne (aj e8 sf)]
     exact sA _ _ (s9 _ _ e8)
   ·intro σ H8
    refine ae.go ?_
    rintro x5 x6 rfl s8
    exact⟨Jd _,t3,_,_,_,_,_,rfl,NM.same s8,by omega,by omega⟩
  ·intro σ H2 hz_
   exact⟨Jd _,nx _ _ trivial⟩
 intro σ H2 _
 exact q H2
end
theorem lenZ {α:Type}{P:List α->Prop}(h:P []):∀us:List α,us.length=0->P us:=fun us e=>U7 e▸h
theorem bL {α:Type}{P:List α->Prop}{n:Nat}(h:∀a (us:List α),us.length=n->P (a::us))(us:List α)(e:us.length=n+1):P us:=by
 cases us with|nil=>cases e|cons a us=>exact h a us (Nat.succ.inj e)
theorem all_mk {l:PySem.W.OpenLaw}{w:World}{K:Jb}{h:Heap}{mg:Str->Option Value}{fa f1 f2 f3 f4 f5 f6 f7 f8 f9 II LM KN Ln HY La Lz Ii Kw JR JD K6 Ld JV KZ HJ ID:Addr}(X:K.In h)(G:h.Ns mainGlobals mg)(Pm:mg "law" = some (.ref fa))
  {ND:FuncData}
  {O3:FuncData}
  {PL:FuncData}
  {OC:FuncData}
  {OV:FuncData}
  {NF:FuncData}
  {O2:FuncData}
  {N7:FuncData}
  {PF:FuncData}
  {Lh:FuncData}
  {Ko:FuncData}
  {LK:FuncData}
  {LF:FuncData}
  {Kd:FuncData}
  {Hx:FuncData}
  {Ie:FuncData}
  {I0:FuncData}
  {Lu:FuncData}
  {Kq:FuncData}
  {KU:FuncData}
  {JK:FuncData}
  {Ik:FuncData}
  {IH:FuncData}
  {IP:FuncData}
  {HN:FuncData}
  {HQ E9:Option Addr} {Hv:Array (Option Value)} {KO Eo DM Gp C3 Ez:Value}
  {vQ:Addr}
  (a1:J0 K mainGlobals "rest_of" = some (some (.ref f1))) (F1:dh K "rest_of" "rest_of" (top ja) f1 ND)
  (a2:J0 K mainGlobals "is_number" = some (some (.ref f2))) (F2:dh K "is_number" "is_number" (top fZ) f2 O3)
  (a3:J0 K mainGlobals "length_first" = some (some (.ref f3))) (F3:dh K "length_first" "length_first" (top dQ) f3 PL)
  (a4:J0 K mainGlobals "code_ends" = some (some (.ref f4))) (F4:dh K "code_ends" "code_ends" (top gb) f4 OC)
  (a5:J0 K mainGlobals "lags_behind" = some (some (.ref f5))) (F5:dh K "lags_behind" "lags_behind" (top eS) f5 OV)
  (a6:J0 K mainGlobals "written" = some (some (.ref f6))) (F6:dh K "written" "written" (top jf) f6 NF)
  (a7:J0 K mainGlobals "text_of" = some (some (.ref f7))) (F7:dh K "text_of" "text_of" (top jh) f7 O2)
  (a8:J0 K mainGlobals "begins_of" = some (some (.ref f8))) (F8:dh K "begins_of" "begins_of" (top gz) f8 N7)
  (a9:J0 K mainGlobals "shows_ring" = some (some (.ref f9))) (F9:dh K "shows_ring" "shows_ring" (top fw) f9 PF)
  (KH:J0 K mainGlobals "lags_of" = some (some (.ref II))) (Ep:dh K "lags_of" "lags_of" (top ji) II Lh)
  (K9:J0 K mainGlobals "ending_lags" = some (some (.ref LM))) (DK:dh K "ending_lags" "ending_lags" (top eQ) LM Ko)
  (IV:J0 K mainGlobals "endless_step" = some (some (.ref KN))) (Ey:dh K "endless_step" "endless_step" (top dW) KN LK)
  (Kh:J0 K mainGlobals "ring_from" = some (some (.ref Ln))) (EC:dh K "ring_from" "ring_from" (top gE) Ln LF)
  (KL:J0 K mainGlobals "never_ring" = some (some (.ref HY))) (DV:dh K "never_ring" "never_ring" (top fK) HY Kd)
  (JT:J0 K mainGlobals "_law_begin" = some (some (.ref La))) (DU:dh K "_law_begin" "_law_begin" (top gq) La Hx)
  (LJ:J0 K mainGlobals "_law_take" = some (some (.ref Lz))) (FU:dh K "_law_take" "_law_take" (top iA) Lz Ie)
  (KG:J0 K mainGlobals "_law_names" = some (some (.ref Ii))) (E5:dh K "_law_names" "_law_names" (top gM) Ii I0)
  (JA:J0 K mainGlobals "_law_free" = some (some (.ref Kw))) (FQ:dh K "_law_free" "_law_free" (top ip) Kw Lu)
  (Kn:J0 K mainGlobals "_law_sizes" = some (some (.ref JR))) (FG:dh K "_law_sizes" "_law_sizes" (top gI) JR Kq)
  (HL:J0 K mainGlobals "_law_book" = some (some (.ref JD))) (Gz:dh K "_law_book" "_law_book" (top ij) JD KU)
  (IQ:J0 K mainGlobals "_law_steps" = some (some (.ref K6))) (Ew:dh K "_law_steps" "_law_steps" (top gC) K6 JK)
  (Ks:J0 K mainGlobals "_law_pairs" = some (some (.ref Ld))) (EB:dh K "_law_pairs" "_law_pairs" (top gu) Ld Ik)
  (LG:J0 K mainGlobals "_law_worths" = some (some (.ref JV))) (Ds:dh K "_law_worths" "_law_worths" (top fz) JV IH)
  (HU:J0 K mainGlobals "_law_begins" = some (some (.ref KZ))) (DB:dh K "_law_begins" "_law_begins" (top fv) KZ IP)
  (LN:J0 K mainGlobals "_law_is_ring" = some (some (.ref HJ))) (ER:dh K "_law_is_ring" "_law_is_ring" (top eO) HJ HN)
  (Ir:J0 K mainGlobals "law" = some (some (.ref ID))) (KY:K.lookup ID=some ⟨KO,HQ,.func (Wz "law" "law" (gQ (top iT)) (fh (top iT)) (aB (top iT)) .none Eo DM Gp E9 C3 Ez),Hv⟩) (Lf:PySem.W.codeIn K C3 "law" = true) (IC:PySem.W.keepIn K (.ref ID)=true)
  (jq:J0 K mainGlobals "NoName" = some (some (.ref vQ)))
  (y0:J0 K mainGlobals "sorted" = some none)
  (y1:J0 K mainGlobals "set" = some none)
  (y2:J0 K mainGlobals "dict" = some none)
  (z0:J0 K mainGlobals "len" = some none) (z1:J0 K mainGlobals "range" = some none) (z2:J0 K mainGlobals "max" = some none) (z3:J0 K mainGlobals "min" = some none) (z4:J0 K mainGlobals "sum" = some none) (z5:J0 K mainGlobals "all" = some none) (z6:J0 K mainGlobals "any" = some none) (z7:J0 K mainGlobals "list" = some none) (z8:J0 K mainGlobals "tuple" = some none) (z9:J0 K mainGlobals "int" = some none) (Ke:J0 K mainGlobals "str" = some none) (HR:J0 K mainGlobals "bool" = some none) (KA:J0 K mainGlobals "zip" = some none) (JM:J0 K mainGlobals "enumerate" = some none) (Ky:J0 K mainGlobals "isinstance" = some none) (Li:J0 K mainGlobals "divmod" = some none) :
  ∃fd:FuncData,(∀(s:Shared) (v:Value),BindsTo s fd ⟨[v],[]⟩ [("_law_script",v)])/\∀base:Heap,K.In base->base.Ns mainGlobals mg->bM l.prog w K mg base gU 7 fa fd ["_law_script"] (oM K):=by
 have e:=Pm.symm.trans (Uo X G Ir)
 cases e
 have T:Nm mg:=⟨Ul X G z0,Ul X G z1,Ul X G z2,Ul X G z3,Ul X G z4,Ul X G z5,Ul X G z6,Ul X G z7,Ul X G z8,Ul X G z9,Ul X G Ke,Ul X G HR,Ul X G KA,Ul X G JM,Ul X G Ky,Ul X G Li⟩
 have eZ:=Ul X G y0
 have vK:=Ul X G y1
 have qz:=Ul X G y2
 have j9:=Uo X G jq
 have k1:=F1.kp
 have b1:=F1.binds (ps:=["one", "other"]) fun _ _ _ _ _ _=>bL fun _=>bL fun _=>lenZ rfl
 have k2:=F2.kp
 have b2:=F2.binds (ps:=["thing"]) fun _ _ _ _ _ _=>bL fun _=>lenZ rfl
 have k3:=F3.kp
 have b3:=F3.binds (ps:=["text"]) fun _ _ _ _ _ _=>bL fun _=>lenZ rfl
 have k4:=F4.kp
 have b4:=F4.binds (ps:=["book"]) fun _ _ _ _ _ _=>bL fun _=>lenZ rfl
 have k5:=F5.kp
 have b5:=F5.binds (ps:=["book", "lag"]) fun _ _ _ _ _ _=>bL fun _=>bL fun _=>lenZ rfl
 have k6:=F6.kp
 have b6:=F6.binds (ps:=["book", "names"]) fun _ _ _ _ _ _=>bL fun _=>bL fun _=>lenZ rfl
 have k7:=F7.kp
 have b7:=F7.binds (ps:=["book", "thing"]) fun _ _ _ _ _ _=>bL fun _=>bL fun _=>lenZ rfl
 have k8:=F8.kp
 have b8:=F8.binds (ps:=["book", "names"]) fun _ _ _ _ _ _=>bL fun _=>bL fun _=>lenZ rfl
 have k9:=F9.kp
 have b9:=F9.binds (ps:=["book", "thing"]) fun _ _ _ _ _ _=>bL fun _=>bL fun _=>lenZ rfl
 have NH:=Ep.kp
 have N3:=Ep.binds (ps:=["book"]) fun _ _ _ _ _ _=>bL fun _=>lenZ rfl
 have Ni:=DK.kp
 have OT:=DK.binds (ps:=["book"]) fun _ _ _ _ _ _=>bL fun _=>lenZ rfl
 have Pj:=Ey.kp
 have Po:=Ey.binds (ps:=["book", "ending", "stand"]) fun _ _ _ _ _ _=>bL fun _=>bL fun _=>bL fun _=>lenZ rfl
 have Ov:=EC.kp
 have OB:=EC.binds (ps:=["book", "ending", "lag"]) fun _ _ _ _ _ _=>bL fun _=>bL fun _=>bL fun _=>lenZ rfl
 have ON:=DV.kp
 have O7:=DV.binds (ps:=["book"]) fun _ _ _ _ _ _=>bL fun _=>lenZ rfl
 have Pb:=DU.kp
 have OY:=DU.binds (ps:=["_law_script"]) fun _ _ _ _ _ _=>bL fun _=>lenZ rfl
 have NC:=FU.kp
 have NS:=FU.binds (ps:=["_law_state", "_law_many"]) fun _ _ _ _ _ _=>bL fun _=>bL fun _=>lenZ rfl
 have O8:=E5.kp
 have NT:=E5.binds (ps:=["_law_state", "_law_many"]) fun _ _ _ _ _ _=>bL fun _=>bL fun _=>lenZ rfl
 have Oe:=FQ.kp
 have Pw:=FQ.binds (ps:=["_law_state", "_law_many", "_law_most"]) fun _ _ _ _ _ _=>bL fun _=>bL fun _=>bL fun _=>lenZ rfl
 have NQ:=FG.kp
 have Pq:=FG.binds (ps:=["_law_state"]) fun _ _ _ _ _ _=>bL fun _=>lenZ rfl
 have OP:=Gz.kp
 have NN:=Gz.binds (ps:=["_law_state"]) fun _ _ _ _ _ _=>bL fun _=>lenZ rfl
 have Og:=Ew.kp
 have OH:=Ew.binds (ps:=["_law_codes", "_law_pair"]) fun _ _ _ _ _ _=>bL fun _=>bL fun _=>lenZ rfl
 have Oa:=EB.kp
 have NP:=EB.binds (ps:=["_law_codes"]) fun _ _ _ _ _ _=>bL fun _=>lenZ rfl
 have NK:=Ds.kp
 have Pd:=Ds.binds (ps:=["_law_codes"]) fun _ _ _ _ _ _=>bL fun _=>lenZ rfl
 have Py:=DB.kp
 have Oc:=DB.binds (ps:=["_law_book_here", "_law_some"]) fun _ _ _ _ _ _=>bL fun _=>bL fun _=>lenZ rfl
 have Ph:=ER.kp
 have PM:=ER.binds (ps:=["_law_book_here", "_law_thing"]) fun _ _ _ _ _ _=>bL fun _=>bL fun _=>lenZ rfl
 have N8:=bq (st:=top iT) KY Lf IC
 refine⟨Wz "law" "law" (gQ (top iT)) (fh (top iT)) (aB (top iT)) .none Eo DM Gp E9 C3 Ez,fun s v =>.of_eq rfl,fun base hB hG =>?_⟩
 have Gh:Fn l.prog w K mg base 1 "rest_of" ["one", "other"] (nR):=⟨f1,_,zD F1 T,b1,k1,Uo X G a1⟩
 have Ki:Fn l.prog w K mg base 1 "is_number" ["thing"] (wm K):=⟨f2,_,Cr F2 T,b2,k2,Uo X G a2⟩
 have Pg:Fn l.prog w K mg base 1 "length_first" ["text"] (yZ):=⟨f3,_,DR F3 T,b3,k3,Uo X G a3⟩
 have Ol:Fn l.prog w K mg base 1 "code_ends" ["book"] (yx K):=⟨f4,_,Gr F4 T,b4,k4,Uo X G a4⟩
 have MR:Fn l.prog w K mg base 2 "lags_behind" ["book", "lag"] (xa K):=⟨f5,_,Fs F5 T Gh,b5,k5,Uo X G a5⟩
 have MN:Fn l.prog w K mg base 1 "written" ["book", "names"] (qS K):=⟨f6,_,Gb F6 T,b6,k6,Uo X G a6⟩
 have HS:Fn l.prog w K mg base 2 "text_of" ["book", "thing"] (pO K):=⟨f7,_,BF F7 T j9 MN,b7,k7,Uo X G a7⟩
 have OD:Fn l.prog w K mg base 1 "begins_of" ["book", "names"] (Bn K):=⟨f8,_,DZ F8 T,b8,k8,Uo X G a8⟩
 have N9:Fn l.prog w K mg base 3 "shows_ring" ["book", "thing"] (lH K):=⟨f9,_,EH F9 T HS Ki OD,b9,k9,Uo X G a9⟩
 have MM:Fn l.prog w K mg base 4 "lags_of" ["book"] (wx K):=⟨II,_,DT Ep T eZ Ol Pg,N3,NH,Uo X G KH⟩
 have N6:Fn l.prog w K mg base 5 "ending_lags" ["book"] (zr K):=⟨LM,_,DE DK T MM MR,OT,Ni,Uo X G K9⟩
 have Nk:Fn l.prog w K mg base 3 "endless_step" ["book", "ending", "stand"] (C0 K):=⟨KN,_,EW Ey T MR,Po,Pj,Uo X G IV⟩
 have OS:Fn l.prog w K mg base 4 "ring_from" ["book", "ending", "lag"] (zK K):=⟨Ln,_,Fl EC T Nk MN,OB,Ov,Uo X G Kh⟩
 have Pc:Fn l.prog w K mg base 6 "never_ring" ["book"] (Bk K):=⟨HY,_,GF DV T N6 MM OS,O7,ON,Uo X G KL⟩
 have Cc:Fn l.prog w K mg base 1 "_law_begin" ["_law_script"] (jZ K):=⟨La,_,xi DU T,OY,Pb,Uo X G JT⟩
 have GD:Fn l.prog w K mg base 1 "_law_take" ["_law_state", "_law_many"] (nF):=⟨Lz,_,zt FU T,NS,NC,Uo X G LJ⟩
 have Ht:Fn l.prog w K mg base 1 "_law_take" ["_law_state", "_law_many"] (uD):=Fn.imp GD (fun _ _ _ _ h=>zd h)
 have OZ:Fn l.prog w K mg base 2 "_law_names" ["_law_state", "_law_many"] (zc):=⟨Ii,_,yF E5 T Ht,NT,O8,Uo X G KG⟩
 have Ei:Fn l.prog w K mg base 2 "_law_free" ["_law_state", "_law_many", "_law_most"] (zx):=⟨Kw,_,yA FQ T Ht,Pw,Oe,Uo X G JA⟩
 have N4:Fn l.prog w K mg base 2 "_law_sizes" ["_law_state"] (tu):=⟨JR,_,Bf FG T Ht,Pq,NQ,Uo X G Kn⟩
 have O4:Fn l.prog w K mg base 3 "_law_book" ["_law_state"] (tw K):=⟨JD,_,Ad Gz T eZ vK Ht N4 Ei OZ,NN,OP,Uo X G HL⟩
 have K4:Fn l.prog w K mg base 1 "_law_steps" ["_law_codes", "_law_pair"] (tG K):=⟨K6,_,Cp Ew T,OH,Og,Uo X G IQ⟩
 have Km:Fn l.prog w K mg base 2 "_law_pairs" ["_law_codes"] (sV K):=⟨Ld,_,Ba EB T K4,NP,Oa,Uo X G Ks⟩
 have K3:Fn l.prog w K mg base 3 "_law_worths" ["_law_codes"] (rW K):=⟨JV,_,CP Ds T Km,Pd,NK,Uo X G LG⟩
 have KP:Fn l.prog w K mg base 1 "_law_begins" ["_law_book_here", "_law_some"] (pJ K):=⟨KZ,_,BD DB T qz,Oc,Py,Uo X G HU⟩
 have PB:Fn l.prog w K mg base 2 "_law_is_ring" ["_law_book_here", "_law_thing"] (lH K):=⟨HJ,_,Bp ER T KP,PM,Ph,Uo X G LN⟩
 exact xw N8 T Cc O4 K3 Pc PB N9
theorem walk {l:PySem.W.OpenLaw}{q:Program}{loose:List Str}{XP:(Str->Option Value)->Heap->Prop}{YP:World->Heap->Prop}{d:DefRec}{K:Params->Jb}(hn:l.most=some 63)(Gq:d.params.defaults=[])
  (hY:∀(w:World) (h:Heap),YP w h->(K w.params).In h)
  (F:∀(w:World) (mg:Str->Option Value) (fa:Addr) (h:Heap),(K w.params).In h->h.Ns mainGlobals mg->mg d.name=some (.ref fa) ->
   ∃fd:FuncData,(∀(s:Shared) (u:Value),BindsTo s fd ⟨[u],[]⟩ [("_law_script",u)])/\∀base:Heap,(K w.params).In base->base.Ns mainGlobals mg->bM l.prog w (K w.params) mg base gU 7 fa fd ["_law_script"] (oM (K w.params))) :
  PySem.W.WalkO q loose XP YP l.row.toRowW d [] (fun f vs=>PySem.call f vs):=
 L2.yH (n:=63) (k:=7) (x := "_law_script") (CX:=fun _=>gU) (sp:=fun w=>oM (K w.params)) hn (by decide) Gq ⟨rfl,by decide,by decide,rfl⟩ hY F (fun _ _ a ns hl _ hS=>⟨a,ns,rfl,hS,hl,fun _=>rfl⟩) fun _ _ _ _ _ z=>z
end Z
open PySem PySem.W PyProof.Rows L2
set_option maxRecDepth 100000 in
set_option maxHeartbeats 0 in
theorem PySem.Challenge.cw_oddlong_k60_readings_that_never_meet_holds : PySem.Challenge.rw_oddlong_k60_readings_that_never_meet.Holds := by
  w_on; o_law; k_head; (case hw => w_witness2)
  k_fill
  refine Z.walk (l := PySem.Challenge.rw_oddlong_k60_readings_that_never_meet) rfl rfl (fun w h Y => PySem.W.kIn_of Y) ?F
  case F =>
    intro w mg fa h KX G hmg
    refine' Z.all_mk KX G hmg ?a1 ?F1 ?a2 ?F2 ?a3 ?F3 ?a4 ?F4 ?a5 ?F5 ?a6 ?F6 ?a7 ?F7 ?a8 ?F8 ?a9 ?F9 ?KH ?Ep ?K9 ?DK ?IV ?Ey ?Kh ?EC ?KL ?DV ?JT ?DU ?LJ ?FU ?KG ?E5 ?JA ?FQ ?Kn ?FG ?HL ?Gz ?IQ ?Ew ?Ks ?EB ?LG ?Ds ?HU ?DB ?LN ?ER ?Ir ?KY ?Lf ?IC ?jq ?y0 ?y1 ?y2 ?z0 ?z1 ?z2 ?z3 ?z4 ?z5 ?z6 ?z7 ?z8 ?z9 ?Ke ?HR ?KA ?JM ?Ky ?Li
    (case a1 => k_is); (case F1 => (refine' bq ?l ?c ?k; (case l => k_is); (case c => k_is); (case k => k_is))); (case a2 => k_is); (case F2 => (refine' bq ?l ?c ?k; (case l => k_is); (case c => k_is); (case k => k_is))); (case a3 => k_is); (case F3 => (refine' bq ?l ?c ?k; (case l => k_is); (case c => k_is); (case k => k_is))); (case a4 => k_is); (case F4 => (refine' bq ?l ?c ?k; (case l => k_is); (case c => k_is); (case k => k_is)))
    (case a5 => k_is); (case F5 => (refine' bq ?l ?c ?k; (case l => k_is); (case c => k_is); (case k => k_is))); (case a6 => k_is); (case F6 => (refine' bq ?l ?c ?k; (case l => k_is); (case c => k_is); (case k => k_is))); (case a7 => k_is); (case F7 => (refine' bq ?l ?c ?k; (case l => k_is); (case c => k_is); (case k => k_is))); (case a8 => k_is); (case F8 => (refine' bq ?l ?c ?k; (case l => k_is); (case c => k_is); (case k => k_is)))
    (case a9 => k_is); (case F9 => (refine' bq ?l ?c ?k; (case l => k_is); (case c => k_is); (case k => k_is))); (case KH => k_is); (case Ep => (refine' bq ?l ?c ?k; (case l => k_is); (case c => k_is); (case k => k_is))); (case K9 => k_is); (case DK => (refine' bq ?l ?c ?k; (case l => k_is); (case c => k_is); (case k => k_is))); (case IV => k_is); (case Ey => (refine' bq ?l ?c ?k; (case l => k_is); (case c => k_is); (case k => k_is)))
    (case Kh => k_is); (case EC => (refine' bq ?l ?c ?k; (case l => k_is); (case c => k_is); (case k => k_is))); (case KL => k_is); (case DV => (refine' bq ?l ?c ?k; (case l => k_is); (case c => k_is); (case k => k_is))); (case JT => k_is); (case DU => (refine' bq ?l ?c ?k; (case l => k_is); (case c => k_is); (case k => k_is))); (case LJ => k_is); (case FU => (refine' bq ?l ?c ?k; (case l => k_is); (case c => k_is); (case k => k_is)))
    (case KG => k_is); (case E5 => (refine' bq ?l ?c ?k; (case l => k_is); (case c => k_is); (case k => k_is))); (case JA => k_is); (case FQ => (refine' bq ?l ?c ?k; (case l => k_is); (case c => k_is); (case k => k_is))); (case Kn => k_is); (case FG => (refine' bq ?l ?c ?k; (case l => k_is); (case c => k_is); (case k => k_is))); (case HL => k_is); (case Gz => (refine' bq ?l ?c ?k; (case l => k_is); (case c => k_is); (case k => k_is)))
    (case IQ => k_is); (case Ew => (refine' bq ?l ?c ?k; (case l => k_is); (case c => k_is); (case k => k_is))); (case Ks => k_is); (case EB => (refine' bq ?l ?c ?k; (case l => k_is); (case c => k_is); (case k => k_is))); (case LG => k_is); (case Ds => (refine' bq ?l ?c ?k; (case l => k_is); (case c => k_is); (case k => k_is))); (case HU => k_is); (case DB => (refine' bq ?l ?c ?k; (case l => k_is); (case c => k_is); (case k => k_is)))
    (case LN => k_is); (case ER => (refine' bq ?l ?c ?k; (case l => k_is); (case c => k_is); (case k => k_is))); (case Ir => k_is); (case KY => k_is); (case Lf => k_is); (case IC => k_is); (case jq => k_is); (case y0 => k_is)
    (case y1 => k_is); (case y2 => k_is); (case z0 => k_is); (case z1 => k_is); (case z2 => k_is); (case z3 => k_is); (case z4 => k_is); (case z5 => k_is)
    (case z6 => k_is); (case z7 => k_is); (case z8 => k_is); (case z9 => k_is); (case Ke => k_is); (case HR => k_is); (case KA => k_is); (case JM => k_is)
    (case Ky => k_is); (case Li => k_is)
